/-
  Merged: Segs, Step, Walk.
-/
import Derived.Test.YtlbebdkockejcaaGreatDoorGaRlp
import Derived.Great.Walk
import Derived.Great.BuildSlice
namespace Go.Proofs.Segs
open Go Go.RowKit
variable {P : Program} {ops : Array Oper} {md : Region.Mode} {Ev : World → World → Prop} {Q : Act → World → Prop}
/-- No way out but the normal one. -/
def QF : Exit → Act → World → Prop := fun _ _ _ => False
/-- Whatever order is picked, whatever later world it goes on from. -/
def wpK (P : Program) (md : Region.Mode) (ops : Array Oper) (Ev : World → World → Prop) (Q : Act → World → Prop) : Nat → Array Bool → Act → World → Prop
  | 0, listed, a, w => Region.ready md ops listed = [] ∧ ∀ w1, Ev w w1 → Q a w1
  | fuel + 1, listed, a, w => ∀ w1, Ev w w1 → (Region.ready md ops listed = [] → Q a w1) ∧ ∀ i ∈ Region.ready md ops listed, wpOp P ops QF i (fun a' w' => Ev w1 w' ∧ wpK P md ops Ev Q fuel (listed.setIfInBounds i true) a' w') a w1
theorem wpK_later (ht : ∀ a b c, Ev a b → Ev b c → Ev a c) : ∀ (fuel : Nat) (listed : Array Bool) (a : Act) (w w1 : World), Ev w w1 → wpK P md ops Ev Q fuel listed a w → wpK P md ops Ev Q fuel listed a w1
  | 0, _, _, _, _, h, k => ⟨k.1, fun w2 h2 => k.2 w2 (ht _ _ _ h h2)⟩
  | _ + 1, _, _, _, _, h, k => fun w2 h2 => k w2 (ht _ _ _ h h2)
/-- It is a 'wpAny'. -/
theorem wpAny_of_wpK (hr : ∀ w, Ev w w) {Q' : Exit → Act → World → Prop} (hQ : ∀ a w, Q a w → Q' .normal a w) : ∀ (fuel : Nat) (listed : Array Bool) (a : Act) (w : World), wpK P md ops Ev Q fuel listed a w → wpAny P md ops (fun e a w => e = .normal ∧ Q' .normal a w) fuel listed a w := by
  intro fuel
  induction fuel with
  | zero => exact fun listed a w h => ⟨h.1, rfl, hQ _ _ (h.2 w (hr w))⟩
  | succ fuel ih =>
    intro listed a w h
    have h1 := h w (hr w)
    refine ⟨fun h0 => ⟨rfl, hQ _ _ (h1.1 h0)⟩, fun i hi => ?_⟩
    have h2 := h1.2 i hi
    unfold wpOp at *
    split
    · next ho => simp only [ho] at h2; exact ih _ _ _ h2.2
    · next o ho =>
      simp only [ho] at h2
      split
      · next hw =>
        simp only [hw, if_true] at h2
        rcases h2 with h2 | ⟨_, h2⟩
        · left
          unfold Oper.wp at *
          generalize (execOp a.eval o).run P w = r at *
          cases r with
          | ok n w' =>
            cases n <;> simp only [Oper.upon] at h2 ⊢ <;>
              first
                | exact ih _ _ _ h2.2
                | exact Calls.mono h2 (fun e w'' he => by cases e <;> first | exact ih _ _ _ he.2 | exact he.elim | exact (show False from he).elim | (obtain ⟨_, _, k⟩ := he; exact k.elim))
                | exact Rows.mono h2 (fun _ _ he => ih _ _ _ he.2)
                | exact h2.elim
                | exact h2
          | halt x w' => cases x <;> simp only [Oper.upon] at h2 ⊢ <;> first | exact h2.elim | exact (show False from h2).elim | exact h2
        · obtain ⟨_, _, h2⟩ := h2
          exact h2.elim
      · next hw => simp only [hw] at h2; exact ih _ _ _ h2.2
/-- In every later world it yields v, and a later world. -/
def YieldsK (P : Program) (ops : Array Oper) (Ev : World → World → Prop) (o : Oper) (v : Value) (a : Act) (w : World) : Prop :=
  (Region.wanted o (yielded ops a.tmps) = true ∧ ∀ w1, Ev w w1 → o.quietAt P a (Ev w1) w1 v) ∨
  (Region.wanted o (yielded ops a.tmps) = false ∧ v = undef)
theorem YieldsK.of_same (ht : ∀ a b c, Ev a b → Ev b c → Ev a c) {o : Oper} {v : Value} {a a' : Act} {w w' : World} (hy : YieldsK P ops Ev o v a w) (hw' : Ev w w') (he : execOp a'.eval o = execOp a.eval o)
    (hw : Region.wanted o (yielded ops a'.tmps) = Region.wanted o (yielded ops a.tmps)) : YieldsK P ops Ev o v a' w' := by
  unfold YieldsK Oper.quietAt at *
  rw [he, hw]
  exact hy.imp (fun ⟨h1, h2⟩ => ⟨h1, fun w1 h => h2 w1 (ht _ _ _ hw' h)⟩) id
theorem YieldsK.wpOp (hr : ∀ w, Ev w w) {i : Nat} {o : Oper} {v : Value} {a : Act} {w w1 : World} (hi : ops[i]? = some o) (hy : YieldsK P ops Ev o v a w) (hw1 : Ev w w1) {K : Act → World → Prop} (h : ∀ w', Ev w1 w' → K (a.put o.dst v) w') : wpOp P ops QF i K a w1 := by
  unfold Go.wpOp
  simp only [hi]
  rcases hy with ⟨hw, hv⟩ | ⟨hw, rfl⟩
  · simp only [hw, if_true]
    left
    have h3 := hv w1 hw1
    unfold Oper.quietAt at h3
    unfold Oper.wp
    generalize (execOp a.eval o).run P w1 = r at *
    cases r with
    | ok n w' =>
      cases n <;> simp only [Oper.quietUpon] at h3 <;> simp only [Oper.upon]
      case value u =>
        obtain ⟨e1, e2⟩ := h3
        rw [e1, e2]
        exact h _ (hr _)
      case skip =>
        obtain ⟨e1, e2⟩ := h3
        rw [e1, ← e2]
        exact h _ (hr _)
      case enter f args =>
        obtain ⟨e1, hc⟩ := h3
        rw [e1]
        exact hc.mono fun e w'' ⟨he, hw''⟩ => by subst he; exact h _ hw''
    | halt x w' => simp only [Oper.quietUpon] at h3
  · simp only [hw, Bool.false_eq_true, if_false]
    exact h _ (hr _)
/-- Whether oi's value is already in its slot makes no difference to oj, and it makes none to oi. -/
theorem wpOp_putK {j : Nat} {oi oj : Oper} {v : Value} (hj : ops[j]? = some oj) (hap : oi.apart ops oj = true)
    (hsi : ∀ cs b, oi.op ≠ .select cs b) (hsj : ∀ cs b, oj.op ≠ .select cs b) {K : Act → World → Prop} {a : Act} {w : World}
    (h : wpOp P ops QF j K (a.put oi.dst v) w) :
    wpOp P ops QF j (fun a' w' => (execOp a'.eval oi = execOp a.eval oi ∧ Region.wanted oi (yielded ops a'.tmps) = Region.wanted oi (yielded ops a.tmps)) ∧ K (a'.put oi.dst v) w') a w := by
  obtain ⟨h1, h2, h3⟩ := Oper.apart_spec hap
  have keep : ∀ (a : Act) u, execOp (a.put oj.dst u).eval oi = execOp a.eval oi ∧ Region.wanted oi (yielded ops (a.put oj.dst u).tmps) = Region.wanted oi (yielded ops a.tmps) := fun a u =>
    ⟨execOp_put oi hsi a oj.dst u h3, wanted_put oi a oj.dst u h3⟩
  unfold wpOp at *
  simp only [hj] at *
  rw [wanted_put oj a oi.dst v h1] at h
  split
  · rename_i hw
    simp only [hw, if_true] at h
    rcases h with h | ⟨_, _, _, hh⟩
    case inr => exact hh.elim
    refine .inl ?_
    unfold Oper.wp at *
    rw [execOp_put oj hsj a oi.dst v h1] at h
    generalize (execOp a.eval oj).run P w = r at *
    cases r with
    | ok n w' =>
      cases n <;> simp only [Oper.upon] at h ⊢
      case value u => exact ⟨keep a u, by rw [← Act.put_comm a v u h2]; exact h⟩
      case skip => exact ⟨keep a _, by rw [← Act.put_comm a v undef h2]; exact h⟩
      case defer d =>
        refine ⟨keep { a with defers := d :: a.defers } _, ?_⟩
        rw [← Act.put_comm _ v undef h2, ← Act.put_defers]
        exact h
      case enter f args =>
        refine Calls.mono h fun e w'' he => ?_
        cases e with
        | returned u => exact ⟨keep a u, by rw [← Act.put_comm a v u h2]; exact he⟩
        | panicked c => exact (show False from he).elim
        | outgrown => obtain ⟨_, _, k⟩ := he; exact k.elim
      case row row args => exact Rows.mono h fun u w'' he => ⟨keep a u, by rw [← Act.put_comm a v u h2]; exact he⟩
    | halt x w' =>
      cases x <;> simp only [Oper.upon] at h ⊢
      case panic u => exact (show False from h).elim
  · rename_i hw
    simp only [hw] at h
    exact ⟨keep a _, by rw [← Act.put_comm a v undef h2]; exact h⟩
/-- An operation that may come up now may be taken first. -/
theorem wpK_first (hrf : ∀ w, Ev w w) (ht : ∀ a b c, Ev a b → Ev b c → Ev a c) {i : Nat} {oi : Oper} {v : Value} (hi : ops[i]? = some oi) (hsel : ∀ (j : Nat) (o : Oper) cs b, ops[j]? = some o → o.op ≠ .select cs b) :
    ∀ (fuel : Nat) (listed : Array Bool) (a : Act) (w : World),
      (∀ j oj, ops[j]? = some oj → j ≠ i → listed.getD j true = false → (∀ e ∈ oj.after, Region.binds md e = true → e.on ≠ i) → oi.apart ops oj = true) →
      i ∈ Region.ready md ops listed → YieldsK P ops Ev oi v a w →
      wpK P md ops Ev Q fuel (listed.setIfInBounds i true) (a.put oi.dst v) w → wpK P md ops Ev Q (fuel + 1) listed a w := by
  intro fuel
  induction fuel with
  | zero =>
    intro listed a w _ hr hy H w1 hw1
    refine ⟨fun h => (by rw [h] at hr; cases hr), fun j hj => ?_⟩
    by_cases hji : j = i
    · subst hji; exact hy.wpOp hrf hi hw1 fun w' h => ⟨h, wpK_later ht _ _ _ _ _ (ht _ _ _ hw1 h) H⟩
    · have := ready_mono hj hji
      rw [H.1] at this
      cases this
  | succ fuel ih =>
    intro listed a w hfree hr hy H w1 hw1
    refine ⟨fun h => (by rw [h] at hr; cases hr), fun j hj => ?_⟩
    by_cases hji : j = i
    · subst hji; exact hy.wpOp hrf hi hw1 fun w' h => ⟨h, wpK_later ht _ _ _ _ _ (ht _ _ _ hw1 h) H⟩
    · have h1 := (H w1 hw1).2 j (ready_mono hj hji)
      obtain ⟨hjun, oj, hoj, hall⟩ := mem_ready.1 hj
      have hnot : ∀ e ∈ oj.after, Region.binds md e = true → e.on ≠ i := fun e he hb heq => by
        have h1 := hall e he hb
        have h0 := (mem_ready.1 hr).1
        rw [heq] at h1
        rcases Nat.lt_or_ge i listed.size with h' | h'
        · simp [h'] at h0 h1; rw [h0] at h1; cases h1
        · simp [Array.getElem?_eq_none h'] at h1
      have h2 := wpOp_putK hoj (hfree j oj hoj hji hjun hnot) (fun cs b => hsel i oi cs b hi) (fun cs b => hsel j oj cs b hoj) h1
      have hfree' : ∀ k ok, ops[k]? = some ok → k ≠ i → (listed.setIfInBounds j true).getD k true = false →
          (∀ e ∈ ok.after, Region.binds md e = true → e.on ≠ i) → oi.apart ops ok = true := fun k ok hk hki hun hno => by
        refine hfree k ok hk hki ?_ hno
        by_cases hjk : j = k
        · subst hjk; exact hjun
        · rw [getD_set_ne true hjk] at hun; exact hun
      refine wpOp_mono (fun a' w' h3 => ⟨h3.2.1, ih (listed.setIfInBounds j true) a' w' hfree' (ready_mono hr (Ne.symm hji)) (hy.of_same ht (ht _ _ _ hw1 h3.2.1) h3.1.1 h3.1.2) ?_⟩) h2
      rw [Array.setIfInBounds_comm _ _ hji]
      exact h3.2.2
/-- Behind one operation that comes up alone. -/
def After (Ev : World → World → Prop) (w : World) (K : Act → World → Prop) : Exit → Act → World → Prop
  | .normal, a, w' => Ev w w' ∧ K a w'
  | _, _, _ => False
/-- The walk of the text's order; 'true': the operation comes up alone. -/
def wpM (P : Program) (ops : Array Oper) (Ev : World → World → Prop) (Q : Act → World → Prop) : List Bool → List Oper → Act → World → Prop
  | _, [], a, w => ∀ w1, Ev w w1 → Q a w1
  | true :: ms, o :: l, a, w => ∀ w1, Ev w w1 → wpList P ops (After Ev w1 (wpM P ops Ev Q ms l)) [o] a w1
  | false :: ms, o :: l, a, w => if Region.wanted o (yielded ops a.tmps) then ∃ v, (∀ w1, Ev w w1 → o.quietAt P a (Ev w1) w1 v) ∧ wpM P ops Ev Q ms l (a.put o.dst v) w else wpM P ops Ev Q ms l (a.put o.dst undef) w
  | [], o :: l, a, w => if Region.wanted o (yielded ops a.tmps) then ∃ v, (∀ w1, Ev w w1 → o.quietAt P a (Ev w1) w1 v) ∧ wpM P ops Ev Q [] l (a.put o.dst v) w else wpM P ops Ev Q [] l (a.put o.dst undef) w
def lexM (md : Region.Mode) (ops : Array Oper) : List Bool → Nat → Nat → Array Bool → Bool
  | _, 0, _, listed => (Region.ready md ops listed).isEmpty
  | true :: ms, g + 1, k, listed => decide (Region.ready md ops listed = [k]) && lexM md ops ms g (k + 1) (listed.setIfInBounds k true)
  | false :: ms, g + 1, k, listed => (Region.ready md ops listed).contains k && Region.free md ops listed k && lexM md ops ms g (k + 1) (listed.setIfInBounds k true)
  | [], g + 1, k, listed => (Region.ready md ops listed).contains k && Region.free md ops listed k && lexM md ops [] g (k + 1) (listed.setIfInBounds k true)
theorem wpOp_of_after {i : Nat} {o : Oper} (hi : ops[i]? = some o) {K : Act → World → Prop} {a : Act} {w : World} (h : wpList P ops (After Ev w K) [o] a w) : wpOp P ops QF i (fun a' w' => Ev w w' ∧ K a' w') a w := by
  unfold wpOp
  simp only [hi]
  unfold wpList at h
  split
  · next hw =>
    simp only [hw, if_true] at h
    rcases h with h | ⟨_, _, _, k⟩
    · left
      unfold Oper.wp at *
      generalize (execOp a.eval o).run P w = r at *
      cases r with
      | ok n w' =>
        cases n <;> simp only [Oper.upon, wpList] at h ⊢ <;>
          first
            | exact h
            | exact Calls.mono h (fun e w'' he => by cases e <;> first | exact he | exact (show False from he).elim | (obtain ⟨_, _, k⟩ := he; exact k.elim))
            | exact Rows.mono h (fun _ _ he => he)
            | exact h.elim
      | halt x w' => cases x <;> simp only [Oper.upon] at h ⊢ <;> first | exact h.elim | exact (show False from h).elim | exact h
    · exact k.elim
  · next hw =>
    simp only [hw] at h
    exact h
theorem wpK_of_wpM (hrf : ∀ w, Ev w w) (ht : ∀ a b c, Ev a b → Ev b c → Ev a c) (hsel : Region.noSelect ops = true) : ∀ (l : List Oper) (ms : List Bool) (k : Nat) (listed : Array Bool) (a : Act) (w : World), (∀ j, l[j]? = ops[k + j]?) →
    lexM md ops ms l.length k listed = true → wpM P ops Ev Q ms l a w → wpK P md ops Ev Q l.length listed a w := by
  intro l
  induction l with
  | nil =>
    intro ms k listed a w _ hB h
    have hB' : (Region.ready md ops listed).isEmpty = true := by cases ms <;> simpa [lexM] using hB
    have h' : ∀ w1, Ev w w1 → Q a w1 := by cases ms <;> simpa [wpM] using h
    exact ⟨List.isEmpty_iff.1 hB', h'⟩
  | cons o l ih =>
    intro ms k listed a w hl hB h
    have h0 : ops[k]? = some o := by simpa using (hl 0).symm
    have hl' : ∀ j, l[j]? = ops[k + 1 + j]? := fun j => by have := hl (j + 1); simpa [Nat.add_assoc, Nat.add_comm 1 j] using this
    have quiet : ∀ ms', (Region.ready md ops listed).contains k = true → Region.free md ops listed k = true → lexM md ops ms' l.length (k + 1) (listed.setIfInBounds k true) = true →
        (if Region.wanted o (yielded ops a.tmps) then ∃ v, (∀ w1, Ev w w1 → o.quietAt P a (Ev w1) w1 v) ∧ wpM P ops Ev Q ms' l (a.put o.dst v) w else wpM P ops Ev Q ms' l (a.put o.dst undef) w) →
        wpK P md ops Ev Q (l.length + 1) listed a w := by
      intro ms' hr hf hB' h'
      by_cases hw : Region.wanted o (yielded ops a.tmps) = true
      · simp only [hw, if_true] at h'
        obtain ⟨v, hv, hK⟩ := h'
        exact wpK_first hrf ht h0 (Region.noSelect_spec hsel) l.length listed a w (Region.free_spec h0 hf) (by simpa using hr) (.inl ⟨hw, hv⟩) (ih ms' (k + 1) _ _ _ hl' hB' hK)
      · simp only [hw] at h'
        exact wpK_first hrf ht h0 (Region.noSelect_spec hsel) l.length listed a w (Region.free_spec h0 hf) (by simpa using hr) (.inr ⟨by simpa using hw, rfl⟩) (ih ms' (k + 1) _ _ _ hl' hB' h')
    match ms with
    | [] =>
      simp only [List.length_cons, lexM, Bool.and_eq_true] at hB
      exact quiet [] hB.1.1 hB.1.2 hB.2 h
    | false :: ms =>
      simp only [List.length_cons, lexM, Bool.and_eq_true] at hB
      exact quiet ms hB.1.1 hB.1.2 hB.2 h
    | true :: ms =>
      simp only [List.length_cons, lexM, Bool.and_eq_true, decide_eq_true_eq] at hB
      intro w1 hw1
      refine ⟨fun h1 => (by rw [hB.1] at h1; cases h1), fun i hi => ?_⟩
      rw [hB.1] at hi
      obtain rfl : i = k := by simpa using hi
      refine wpOp_mono (fun a' w' h3 => ⟨h3.1, ih ms (i + 1) _ a' w' hl' hB.2 h3.2⟩) (wpOp_of_after h0 (h w1 hw1))
/-- The region, by its walk. -/
theorem wp_region_segs (Ev : World → World → Prop) (ms : List Bool) {id : Nat} {Q : Exit → Act → World → Prop} {a : Act} {w : World} {l : List Oper} (hrf : ∀ w, Ev w w) (ht : ∀ a b c, Ev a b → Ev b c → Ev a c)
    (hm : P.follows .mixedOrders = true) (hs : Region.noSelect l.toArray = true) (hB : lexM .any l.toArray ms l.length 0 (Array.replicate l.length false) = true)
    (h : wpM P l.toArray Ev (fun a w => Q .normal a w) ms l a w.drew) : (Code.region id l.toArray true).wp P Q a w := by
  refine Go.wp_mono (wp_region_any hm ?_) (fun e a w (k : e = .normal ∧ Q .normal a w) => by rw [k.1]; exact k.2)
  have H := wpK_of_wpM (md := .any) hrf ht hs l ms 0 (Array.replicate l.length false) a w.drew (by simp) hB h
  have := wpAny_of_wpK (Q' := Q) hrf (fun a w h => h) _ _ _ _ H
  simpa using this
/-- A stretch of quiet operations, whose frame at the end is one, whatever world it begins in. -/
def onceB (n : Nat) : List Oper → Bool
  | [] => true
  | o :: l => (match o.dst with | some d => decide (d < n) && l.all (fun o' => o'.dst != some d) | none => false) && onceB n l
theorem size_put (a : Act) (d : Option Tmp) (v : Value) : (a.put d v).tmps.size = a.tmps.size := by cases d <;> simp [Act.put]
theorem get_put_other (a : Act) {d : Tmp} {x : Option Tmp} (v : Value) (h : x ≠ some d) : (a.put x v).tmps[d]? = a.tmps[d]? := by
  cases x with
  | none => rfl
  | some y =>
    have : y ≠ d := fun e => h (by rw [e])
    simp [Act.put, Array.getElem?_setIfInBounds_ne this]
theorem kept_quiet {C : World → Prop} {d : Tmp} : ∀ (l : List Oper) (a A : Act), (∀ o ∈ l, o.dst ≠ some d) → wpQuiet P ops C (fun a' => a' = A) l a → A.tmps[d]? = a.tmps[d]?
  | [], a, A, _, h => by rw [show a = A from h]
  | o :: l, a, A, hd, h => by
    have h0 := hd o (by simp)
    have hl : ∀ o' ∈ l, o'.dst ≠ some d := fun o' ho => hd o' (by simp [ho])
    unfold wpQuiet at h
    split at h
    · obtain ⟨v, _, h2⟩ := h
      rw [kept_quiet l _ A hl h2, get_put_other a v h0]
    · rw [kept_quiet l _ A hl h, get_put_other a _ h0]
theorem wpM_of_quiet (hrf : ∀ w, Ev w w) {ms : List Bool} {l2 : List Oper} {w : World} {A : Act} : ∀ (l : List Oper) (a : Act), onceB a.tmps.size l = true → (∀ w0, Ev w w0 → wpQuiet P ops (Ev w0) (fun a' => a' = A) l a) → wpM P ops Ev Q ms l2 A w →
    wpM P ops Ev Q (List.replicate l.length false ++ ms) (l ++ l2) a w
  | [], a, _, h, h2 => by
    have : a = A := h w (hrf w)
    rw [this]
    exact h2
  | o :: l, a, hB, h, h2 => by
    simp only [onceB, Bool.and_eq_true] at hB
    obtain ⟨hd, hB'⟩ := hB
    split at hd
    · next d hod =>
      simp only [Bool.and_eq_true, decide_eq_true_eq] at hd
      have hno : ∀ o' ∈ l, o'.dst ≠ some d := fun o' ho => by have := List.all_eq_true.1 hd.2 o' ho; simpa using this
      show if Region.wanted o (yielded ops a.tmps) then _ else _
      by_cases hw : Region.wanted o (yielded ops a.tmps) = true
      · have hq : ∀ w0, Ev w w0 → (∀ w', Ev w0 w' → o.quietAt P a (Ev w0) w' (A.tmps.getD d undef)) ∧ wpQuiet P ops (Ev w0) (fun a' => a' = A) l (a.put o.dst (A.tmps.getD d undef)) := fun w0 h0 => by
          have h3 := h w0 h0
          unfold wpQuiet at h3
          rw [if_pos hw] at h3
          obtain ⟨v, h4, h5⟩ := h3
          have h6 := kept_quiet l _ A hno h5
          rw [show (a.put o.dst v).tmps[d]? = some v by rw [hod]; exact Array.getElem?_setIfInBounds_self_of_lt hd.1] at h6
          have h7 : A.tmps.getD d undef = v := by rw [Array.getD_eq_getD_getElem?, h6]; rfl
          rw [h7]
          exact ⟨h4, h5⟩
        rw [if_pos hw]
        exact ⟨A.tmps.getD d undef, fun w1 h1 => (hq w1 h1).1 w1 (hrf w1), wpM_of_quiet hrf l _ (by rw [size_put]; exact hB') (fun w0 h0 => (hq w0 h0).2) h2⟩
      · rw [if_neg hw]
        refine wpM_of_quiet hrf l _ (by rw [size_put]; exact hB') (fun w0 h0 => ?_) h2
        have := h w0 h0
        unfold wpQuiet at this
        rw [if_neg hw] at this
        exact this
    · cases hd
/-- The first n operations are a quiet stretch. -/
theorem wpM_stretch (n : Nat) (hrf : ∀ w, Ev w w) {ms ms' : List Bool} {l : List Oper} {a : Act} {w : World} (hn : n ≤ l.length) (hms : ms = List.replicate n false ++ ms') (hB : onceB a.tmps.size (l.take n) = true)
    (h : ∃ A, (∀ w0, Ev w w0 → wpQuiet P ops (Ev w0) (fun a' => a' = A) (l.take n) a) ∧ wpM P ops Ev Q ms' (l.drop n) A w) : wpM P ops Ev Q ms l a w := by
  obtain ⟨A, h, h2⟩ := h
  have := wpM_of_quiet hrf (l.take n) a hB h h2
  rw [List.take_append_drop, List.length_take, Nat.min_eq_left hn] at this
  rw [hms]
  exact this
/-- The world's own history. -/
def Hist (w w' : World) : Prop := Below w.heap.size w w'
theorem Hist.refl (w : World) : Hist w w := Below.refl _ _
theorem Hist.trans (a b c : World) (h : Hist a b) (k : Hist b c) : Hist a c := Below.trans h (Below.mono k (Below.size h))
end Go.Proofs.Segs
namespace Go.Proofs.Segs
open Go Go.RowKit
variable {P : Program} {ops : Array Oper} {Ev : World → World → Prop} {Q : Act → World → Prop}
theorem wpM_alone {ms : List Bool} {o : Oper} {l : List Oper} {a : Act} {w : World} (h : ∀ w1, Ev w w1 → wpList P ops (After Ev w1 (wpM P ops Ev Q ms l)) [o] a w1) : wpM P ops Ev Q (true :: ms) (o :: l) a w := h
theorem wpM_end {ms : List Bool} {a : Act} {w : World} (h : ∀ w1, Ev w w1 → Q a w1) : wpM P ops Ev Q ms [] a w := by cases ms <;> exact h
theorem after_alone {K : Act → World → Prop} {a : Act} {w w' : World} (h : Ev w w') (k : K a w') : After Ev w K .normal a w' := ⟨h, k⟩
theorem Hist.alloc (w : World) (o : Obj) : Hist w (w.alloc o) := (Below.refl _ _).alloc (Nat.le_refl _) _
end Go.Proofs.Segs
namespace Go.Proofs.YtlbebdkockejcaaGreatDoor
open Go.RowKit
theorem Bl.later {B : Nat} {a b c : World} (h : Bl B a b) (k : Segs.Hist b c) : Bl B a c := h.call k
end Go.Proofs.YtlbebdkockejcaaGreatDoor
namespace Go.Proofs.Segs
open Go Go.RowKit
variable {P : Program} {ops : Array Oper} {Ev : World → World → Prop} {Q : Act → World → Prop}
theorem wpM_val {ms : List Bool} {o : Oper} {l : List Oper} {a : Act} {w : World} (d : Option Tmp) (v : Value) (hd : o.dst = d) (hw : Region.wanted o (yielded ops a.tmps) = true)
    (h : ∀ W, Ev w W → (execOp a.eval o).run P W = .ok (.value v) W) (k : wpM P ops Ev Q ms l (a.put d v) w) : wpM P ops Ev Q (false :: ms) (o :: l) a w := by
  subst hd
  show if Region.wanted o (yielded ops a.tmps) then _ else _
  rw [if_pos hw]
  exact ⟨v, fun w1 h1 => by unfold Oper.quietAt; rw [h w1 h1]; exact ⟨rfl, rfl⟩, k⟩
theorem wpM_not {ms : List Bool} {o : Oper} {l : List Oper} {a : Act} {w : World} (d : Option Tmp) (hd : o.dst = d) (hw : Region.wanted o (yielded ops a.tmps) = false)
    (k : wpM P ops Ev Q ms l (a.put d undef) w) : wpM P ops Ev Q (false :: ms) (o :: l) a w := by
  subst hd
  show if Region.wanted o (yielded ops a.tmps) then _ else _
  rw [if_neg (by rw [hw]; exact Bool.false_ne_true)]
  exact k
theorem wpM_call {ms : List Bool} {o : Oper} {l : List Oper} {a : Act} {w : World} (d : Option Tmp) (f : FuncId) (args : Array Value) (v : Value) (hd : o.dst = d) (hw : Region.wanted o (yielded ops a.tmps) = true)
    (h : ∀ W, (execOp a.eval o).run P W = .ok (.enter f args) W) (hc : ∀ W, Ev w W → Calls P f args W fun e w' => e = .returned v ∧ Ev W w')
    (k : wpM P ops Ev Q ms l (a.put d v) w) : wpM P ops Ev Q (false :: ms) (o :: l) a w := by
  subst hd
  show if Region.wanted o (yielded ops a.tmps) then _ else _
  rw [if_pos hw]
  exact ⟨v, fun w1 h1 => by unfold Oper.quietAt; rw [h w1]; exact ⟨rfl, hc w1 h1⟩, k⟩
/-- An operation that comes up alone, and makes a block. -/
theorem wpM_new {ms : List Bool} {o : Oper} {l : List Oper} {a : Act} {w : World} (d : Option Tmp) (v : World → Value) (ob : Obj) (hd : o.dst = d) (hg : o.guard = none)
    (h : ∀ W, Ev w W → (execOp a.eval o).run P W = .ok (.value (v W)) (W.alloc ob)) (he : ∀ W, Ev w W → Ev W (W.alloc ob))
    (k : ∀ W, Ev w W → wpM P ops Ev Q ms l (a.put d (v W)) (W.alloc ob)) : wpM P ops Ev Q (true :: ms) (o :: l) a w := by
  subst hd
  intro w1 h1
  refine wpList_plain hg fun K hK => ?_
  unfold Oper.wp
  rw [h w1 h1]
  exact hK _ _ ⟨he w1 h1, k w1 h1⟩
theorem wpM_aval {ms : List Bool} {o : Oper} {l : List Oper} {a : Act} {w : World} (d : Option Tmp) (v : Value) (hd : o.dst = d) (hg : o.guard = none) (hr : ∀ w, Ev w w)
    (h : ∀ W, Ev w W → (execOp a.eval o).run P W = .ok (.value v) W) (k : ∀ W, Ev w W → wpM P ops Ev Q ms l (a.put d v) W) : wpM P ops Ev Q (true :: ms) (o :: l) a w := by
  subst hd
  intro w1 h1
  refine wpList_plain hg fun K hK => ?_
  unfold Oper.wp
  rw [h w1 h1]
  exact hK _ _ ⟨hr w1, k w1 h1⟩
theorem wpM_acall {ms : List Bool} {o : Oper} {l : List Oper} {a : Act} {w : World} (d : Option Tmp) (f : FuncId) (args : Array Value) (R : World → Ending → World → Prop) (hd : o.dst = d) (hg : o.guard = none)
    (h : ∀ W, (execOp a.eval o).run P W = .ok (.enter f args) W) (hc : ∀ W, Ev w W → Calls P f args W (R W))
    (k : ∀ W, Ev w W → ∀ e w', R W e w' → ∃ v, e = .returned v ∧ Ev W w' ∧ wpM P ops Ev Q ms l (a.put d v) w') : wpM P ops Ev Q (true :: ms) (o :: l) a w := by
  subst hd
  intro w1 h1
  refine wpList_plain hg fun K hK => ?_
  unfold Oper.wp
  rw [h w1]
  show Calls P f args w1 _
  refine (hc w1 h1).mono fun e w' hR => ?_
  obtain ⟨v, rfl, h2, h3⟩ := k w1 h1 e w' hR
  exact hK _ _ ⟨h2, h3⟩
theorem wpM_frame {ms : List Bool} {l : List Oper} {a : Act} {w : World} (a' : Act) (ha : a = a') (h : wpM P ops Ev Q ms l a' w) : wpM P ops Ev Q ms l a w := ha ▸ h
/-- What operations do: a cell, a whole block is read; a slice is made of parts. -/
theorem run_cell {o : Oper} {a : Act} {W : World} (ty : TypeId) (x : Operand) (ho : o.op = .load ty x) (g i : Nat) (hx : a.eval x = .pointer (some ⟨g, i, none⟩)) (v : Value)
    (ha : (isAgg ty).run P W = .ok false W) (hc : W.cell? ⟨g, i, none⟩ = some v) : (execOp a.eval o).run P W = .ok (.value v) W := by
  unfold execOp
  simp [ho, hx, Instr.loadAt, Instr.sureAddr, loadVar, ha, hc, Result.andThen]
theorem run_row {o : Oper} {a : Act} {W : World} (ty : TypeId) (x : Operand) (ho : o.op = .load ty x) (g : Nat) (hx : a.eval x = .pointer (some ⟨g, 0, none⟩)) (t : TypeId) (cs : Array Value) (d : TypeDesc)
    (hg : W.heap[g]? = some (.cells cs t (0, 0))) (hu : P.underlying ty = some d) (hd : (match d with | .struct _ | .array _ _ => true | _ => false) = true) (hi : (P.info? ty).map (·.size) = some cs.size) :
    (execOp a.eval o).run P W = .ok (.value (.agg cs)) W := by
  unfold execOp
  simp only [ho, hx, Instr.loadAt, Instr.sureAddr, Sem.run_bind, Sem.run_pure, Result.andThen_ok, run_loadVar_row W g t ty cs (0, 0) d hg hu hd hi]
theorem run_slice_of {o : Oper} {a : Act} {W : World} (t e : TypeId) (len : Nat) (parts : Array (Nat × Operand)) (ho : o.op = .buildSlice t len parts) (cells : Array Value) (hu : P.underlying t = some (.slice e))
    (hf : P.builtSlice e len (parts.map fun (i, x) => (i, a.eval x)).toList = some cells) : (execOp a.eval o).run P W = .ok (.value (.slice (some ⟨W.heap.size, 0, none⟩) len len)) (W.alloc (.cells cells e)) := by
  unfold Program.builtSlice at hf
  cases hie : P.info? e with
  | none => simp [hie] at hf
  | some ie =>
    simp only [hie] at hf
    cases hz : ie.zero with
    | none => simp [hz] at hf
    | some z =>
      simp only [hz] at hf
      by_cases hc : len * ie.size > 2 ^ 24 ∨ len * ie.size = 0
      · simp [hc] at hf
      · rw [if_neg hc] at hf
        have := run_buildSlice (P := P) W t e len (parts.map fun (i, x) => (i, a.eval x)) cells ie z hu hie hz (fun h' => hc (Or.inl h')) (fun h' => hc (Or.inr h')) hf
        unfold execOp
        simp only [ho, Sem.run_bind, this, Result.andThen_ok, Sem.run_pure]
end Go.Proofs.Segs
namespace Go.Proofs.Segs
open Go Go.RowKit
variable {P : Program} {ops : Array Oper} {Q : Exit → Act → World → Prop} {o : Oper} {l : List Oper} {a : Act} {w : World}
theorem wpL_val (d : Option Tmp) (v : Value) (w' : World) (hd : o.dst = d) (hw : Region.wanted o (yielded ops a.tmps) = true) (h : (execOp a.eval o).run P w = .ok (.value v) w')
    (k : wpList P ops Q l (a.put d v) w') : wpList P ops Q (o :: l) a w := by
  subst hd
  unfold wpList
  rw [if_pos hw]
  left
  unfold Oper.wp
  rw [h]
  exact k
theorem wpL_skip (w' : World) (hd : o.dst = none) (hw : Region.wanted o (yielded ops a.tmps) = true) (h : (execOp a.eval o).run P w = .ok .skip w')
    (k : wpList P ops Q l a w') : wpList P ops Q (o :: l) a w := by
  unfold wpList
  rw [if_pos hw]
  left
  unfold Oper.wp
  rw [h]
  show wpList P ops Q l (a.put o.dst undef) w'
  rw [hd]
  exact k
theorem wpL_not (d : Option Tmp) (hd : o.dst = d) (hw : Region.wanted o (yielded ops a.tmps) = false) (k : wpList P ops Q l (a.put d undef) w) : wpList P ops Q (o :: l) a w := by
  subst hd
  unfold wpList
  rw [if_neg (by rw [hw]; exact Bool.false_ne_true)]
  exact k
theorem wpL_call (d : Option Tmp) (f : FuncId) (args : Array Value) (R : Ending → World → Prop) (hd : o.dst = d) (hw : Region.wanted o (yielded ops a.tmps) = true)
    (h : (execOp a.eval o).run P w = .ok (.enter f args) w) (hc : Calls P f args w R) (k : ∀ e w', R e w' → ∃ v, e = .returned v ∧ wpList P ops Q l (a.put d v) w') : wpList P ops Q (o :: l) a w := by
  subst hd
  unfold wpList
  rw [if_pos hw]
  left
  unfold Oper.wp
  rw [h]
  show Calls P f args w _
  refine hc.mono fun e w' hR => ?_
  obtain ⟨v, rfl, h2⟩ := k e w' hR
  exact h2
/-- wpList, closed: so that no tactic looks into what is left. -/
structure WL (P : Program) (ops : Array Oper) (Q : Exit → Act → World → Prop) (l : List Oper) (a : Act) (w : World) : Prop where
  out : wpList P ops Q l a w
theorem WL.nil (h : Q .normal a w) : WL P ops Q [] a w := ⟨wpList_nil h⟩
theorem WL.val (d : Option Tmp) (v : Value) (w' : World) (hd : o.dst = d) (hw : Region.wanted o (yielded ops a.tmps) = true) (h : (execOp a.eval o).run P w = .ok (.value v) w')
    (k : WL P ops Q l (a.put d v) w') : WL P ops Q (o :: l) a w := ⟨wpL_val d v w' hd hw h k.out⟩
theorem WL.skip (w' : World) (hd : o.dst = none) (hw : Region.wanted o (yielded ops a.tmps) = true) (h : (execOp a.eval o).run P w = .ok .skip w')
    (k : WL P ops Q l a w') : WL P ops Q (o :: l) a w := ⟨wpL_skip w' hd hw h k.out⟩
theorem WL.not (d : Option Tmp) (hd : o.dst = d) (hw : Region.wanted o (yielded ops a.tmps) = false) (k : WL P ops Q l (a.put d undef) w) : WL P ops Q (o :: l) a w := ⟨wpL_not d hd hw k.out⟩
theorem WL.call (d : Option Tmp) (f : FuncId) (args : Array Value) (R : Ending → World → Prop) (hd : o.dst = d) (hw : Region.wanted o (yielded ops a.tmps) = true)
    (h : (execOp a.eval o).run P w = .ok (.enter f args) w) (hc : Calls P f args w R) (k : ∀ e w', R e w' → ∃ v, e = .returned v ∧ WL P ops Q l (a.put d v) w') : WL P ops Q (o :: l) a w :=
  ⟨wpL_call d f args R hd hw h hc (fun e w' hR => let ⟨v, h1, h2⟩ := k e w' hR; ⟨v, h1, h2.out⟩)⟩
theorem run_storeRow {ty : TypeId} {x y : Operand} (ho : o.op = .store ty x y) (g : Nat) (cells : Array Value) (hx : a.eval x = .pointer (some ⟨g, 0, none⟩)) (hy : a.eval y = .agg cells)
    (t : TypeId) (old : Array Value) (hg : w.heap[g]? = some (.cells old t (0, 0))) (hi : (P.info? ty).map (·.size) = some cells.size) (hold : old.size = cells.size) (h1 : cells.all (·.oneCell') = true) :
    (execOp a.eval o).run P w = .ok .skip (w.setRow g cells) := by
  unfold execOp
  simp only [ho, hx, hy, Instr.storeAt, Instr.sureAddr, Sem.run_bind, Sem.run_pure, Result.andThen_ok, run_storeVar_row w g t ty old cells hg hi hold h1]
theorem run_mid {ty : TypeId} {x : Operand} (ho : o.op = .load ty x) (b off : Nat) (hx : a.eval x = .pointer (some ⟨b, off, none⟩)) (cs : List Value) (d : TypeDesc) (hc : w.rangeAt b off cs)
    (hu : P.underlying ty = some d) (hd : d.isRow = true) (hi : (P.info? ty).map (·.size) = some cs.length) : (execOp a.eval o).run P w = .ok (.value (.agg cs.toArray)) w := by
  unfold execOp
  simp only [ho, hx, Instr.loadAt, Instr.sureAddr, Sem.run_bind, Sem.run_pure, Result.andThen_ok, run_loadVar_mid w b off ty cs d hc hu hd hi]
theorem run_built0 (t : TypeId) (parts : Array (Nat × Operand)) (ho : o.op = .build t parts) (cells : Array Value) (h : P.built t (parts.map fun (i, x) => (i, a.eval x)).toList = some cells) :
    (execOp a.eval o).run P w = .ok (.value (.agg cells)) w := by
  unfold execOp
  simp only [ho, Sem.run_bind, run_build w t _ cells h, Result.andThen_ok, Sem.run_pure]
/-- A store of one value of one cell. -/
theorem run_storeCell {ty : TypeId} {x y : Operand} (ho : o.op = .store ty x y) (g i : Nat) (v old : Value) (hx : a.eval x = .pointer (some ⟨g, i, none⟩)) (hy : a.eval y = v) (hv : v.oneCell' = true)
    (hi : (P.info? ty).map (·.size) = some 1) (hc : w.cell? ⟨g, i, none⟩ = some old) (hf : w.frozen? ⟨g, i, none⟩ = false) : (execOp a.eval o).run P w = .ok .skip (w.setCell ⟨g, i, none⟩ v) := by
  have hcs : v.cells = #[v] := by cases v <;> first | rfl | cases hv
  unfold execOp
  cases hq : P.info? ty with
  | none => simp [hq] at hi
  | some it =>
    have hs : it.size = 1 := by simpa [hq] using hi
    simp only [ho, hx, hy, Instr.storeAt, Instr.sureAddr, Sem.run_bind, Sem.run_pure, Result.andThen_ok]
    simp [storeVar, hcs, sizeOf, typeInfo, hq, hs, storeCells, run_store _ _ _ v _ hv, Addr.add, hc, hf, Result.andThen]
/-- What makes a block. -/
theorem run_allocOf {t : TypeId} (ho : o.op = .alloc t) (cells : Array Value) (hz : ∀ W : World, (Instr.alloc t true (.tuple #[])).run P W = .ok (.pointer (some ⟨W.heap.size, 0, none⟩)) (W.alloc (.cells cells t))) :
    (execOp a.eval o).run P w = .ok (.value (.pointer (some ⟨w.heap.size, 0, none⟩))) (w.alloc (.cells cells t)) := by
  unfold execOp
  simp only [ho, Sem.run_bind, hz, Result.andThen_ok, Sem.run_pure]
end Go.Proofs.Segs
