/-
  A region that draws its order, in a round of a loop over a function, walked in an order of one's own choice. No program is spoken of here.
-/
import Derived.Test.YtlbebdkockejcaaGreatDoorGaRun
import Derived.RangeFuncCalls
import Derived.OrdersIn
import Derived.ControlIn
namespace Go.Proofs.Segs
open Go Go.RowKit
variable {P : Program} {ops : Array Oper} {md : Region.Mode} {Ev : World → World → Prop} {Q : Act → World → Prop}
theorem rows_in {l n : Nat} {row : String} {args : Array Value} {w : World} {R : Value → World → Prop} (h : Rows P row args w R) : RowsIn (Fence.wide.inRound l) n P row args w R := fun c cs _ =>
  let ⟨v, w', r, s⟩ := h c cs; ⟨v, w', r, stepsIn_wide.2 s⟩
theorem wpAnyIn_of_wpK (l n : Nat) (hr : ∀ w, Ev w w) {Q' : Exit → Act → World → Prop} (hQ : ∀ a w, Q a w → Q' .normal a w) (hnd : ∀ (i : Nat) (o : Oper), ops[i]? = some o → ∀ c, o.op ≠ .defer c) : ∀ (fuel : Nat) (listed : Array Bool) (a : Act) (w : World), wpK P md ops Ev Q fuel listed a w → wpAnyIn (Fence.wide.inRound l) n P md ops Q' fuel listed a w := by
  intro fuel
  induction fuel with
  | zero => exact fun listed a w h => ⟨h.1, hQ _ _ (h.2 w (hr w))⟩
  | succ fuel ih =>
    intro listed a w h
    have h1 := h w (hr w)
    refine ⟨fun h0 => hQ _ _ (h1.1 h0), fun i hi => ?_⟩
    have h2 := h1.2 i hi
    unfold wpOp at h2
    unfold wpOpIn
    split
    · next ho => simp only [ho] at h2; exact ih _ _ _ h2.2
    · next o ho =>
      simp only [ho] at h2
      split
      · next hw =>
        simp only [hw, if_true] at h2
        rcases h2 with h2 | ⟨_, h2⟩
        · unfold Oper.wp at h2
          refine ⟨fun _ _ => trivial, ?_⟩
          rw [Oper.semAt_eq _ _ _ (hnd i o ho)]
          generalize (execOp a.eval o).run P w = r at *
          cases r with
          | ok n w' =>
            cases n <;> simp only [Oper.upon] at h2 <;> simp only [Oper.uponIn] <;>
              first
                | exact ih _ _ _ h2.2
                | exact ⟨fun h => (by cases h), CallsIn.inRound l (callsIn_wide.2 (Calls.mono h2 (fun e w'' he => by cases e <;> first | exact ih _ _ _ he.2 | exact he.elim | exact (show False from he).elim | (obtain ⟨_, _, k⟩ := he; exact k.elim))))⟩
                | exact ⟨fun h => (by cases h), rows_in (Rows.mono h2 (fun _ _ he => ih _ _ _ he.2))⟩
                | exact h2.elim
                | exact h2
          | halt x w' => cases x <;> simp only [Oper.upon] at h2 <;> simp only [Oper.uponIn] <;> first | exact h2.elim | exact (show False from h2).elim | exact h2
        · obtain ⟨_, _, h2⟩ := h2
          exact h2.elim
      · next hw =>
        simp only [hw] at h2
        exact ⟨fun _ _ => trivial, ih _ _ _ h2.2⟩
def noDefer (ops : Array Oper) : Bool := ops.all (fun o => match o.op with | .defer _ => false | _ => true)
theorem noDefer_spec (h : noDefer ops = true) : ∀ (i : Nat) (o : Oper), ops[i]? = some o → ∀ c, o.op ≠ .defer c := by
  intro i o ho c e
  unfold noDefer at h
  rw [Array.all_eq_true] at h
  obtain ⟨hi, rfl⟩ := Array.getElem?_eq_some_iff.1 ho
  have := h i hi
  rw [e] at this
  cases this
theorem wpIn_region_perm (Ev : World → World → Prop) (ms : List (Nat × Bool)) {id lp n : Nat} {Q : Exit → Act → World → Prop} {a : Act} {w : World} {l : List Oper} (hrf : ∀ w, Ev w w) (ht : ∀ a b c, Ev a b → Ev b c → Ev a c)
    (hm : P.follows .mixedOrders = true) (hs : Region.noSelect l.toArray = true) (hd : noDefer l.toArray = true) (hn : ms.length = l.length) (hB : lexP .any l.toArray ms (Array.replicate l.length false) = true)
    (h : WP P l.toArray Ev (fun a w => Q .normal a w) ms a w.drew) : (Code.region id l.toArray true).wpIn (Fence.wide.inRound lp) n P Q a w := by
  refine wpIn_region_any hm ?_
  have H := wpK_of_wpP (md := .any) hrf ht hs ms (Array.replicate l.length false) a w.drew hB h.out
  rw [hn] at H
  have := wpAnyIn_of_wpK lp n (Q' := Q) hrf (fun a w h => h) (noDefer_spec hd) _ _ _ _ H
  simpa using this
end Go.Proofs.Segs
