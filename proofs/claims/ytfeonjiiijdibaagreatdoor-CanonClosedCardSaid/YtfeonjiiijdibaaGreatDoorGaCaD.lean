/-
  Merged: CanTell, CanMap, CanNodes.
-/
import Derived.Test.YtfeonjiiijdibaaGreatDoorGaCaB
import Derived.Test.YtfeonjiiijdibaaGreatDoorGaCaP
import Derived.Test.YtfeonjiiijdibaaGreatDoorGaNodeC
import Derived.RangeFuncNested
import Derived.RangeFuncBound
import Derived.RangeFuncCalls
import Derived.RangeFuncLeaves
import Derived.LoopIn
import Derived.Test.YtfeonjiiijdibaaGreatDoorGaMdB
import Derived.Sort.CutIn
namespace Go.Proofs.YtfeonjiiijdibaaGreatDoor
open Go.RowKit Go.Shelf Go.Proofs.Nod Go.Proofs.Can
open Go.Proofs.Mdl hiding e0
attribute [local go_sem] Oper.semAt_some
set_option linter.unusedVariables false
set_option linter.unusedSimpArgs false
theorem roomW (k : Nat) : Fence.wide.room k := fun d h => by cases h
theorem yieldAny {m : Nat} (m' : Nat) {P : Program} {l : Nat} {args : Array Value} {W : World} {R : Ending → World → Prop} (h : YieldAt Fence.wide m P l args W R) : YieldAt Fence.wide m' P l args W R := by
  obtain ⟨fn, tmps, assign, body, hy, hR⟩ := h
  exact ⟨fn, tmps, assign, body, hy, ⟨hR.1, fun c cs _ => hR.2 c cs (roomW _)⟩⟩
/-- A node's bytes, as a round is handed them. -/
abbrev Tx := { x : ByteArray // x.size ≤ 1000 }
def bareX (l : List Tx) : List ByteArray := l.map (·.1)
theorem bareX_append (a b : List Tx) : bareX (a ++ b) = bareX a ++ bareX b := by simp [bareX]
theorem bareX_length (a : List Tx) : (bareX a).length = a.length := by simp [bareX]
/-- What a round keeps: all below B; and all trees. -/
def Kt (B : Nat) (W W' : World) : Prop := Below B W W' ∧ ∀ g cs, Blk W g 67 cs → Blk W' g 67 cs
theorem Kt.refl (B : Nat) (W : World) : Kt B W W := ⟨Below.refl _ _, fun _ _ h => h⟩
theorem Kt.trans {B : Nat} {X Y Z : World} (h : Kt B X Y) (k : Kt B Y Z) : Kt B X Z := ⟨h.1.trans k.1, fun g cs a => k.2 g cs (h.2 g cs a)⟩
theorem Kt.alloc {B : Nat} {X Y : World} (h : Kt B X Y) (hB : B ≤ Y.heap.size) (o : Obj) : Kt B X (Y.alloc o) := ⟨h.1.alloc hB o, fun g cs a => (h.2 g cs a).alloc o⟩
theorem Kt.book {B : Nat} {w : World} (hB : B ≤ w.heap.size) (W : World) (l : Nat) (o o' : Obj) (hl : w.heap.size ≤ l) (ho : W.heap[l]? = some o) (hc : o.isCells = false) (hw : o.isWalk = false) : Kt B W (W.putObj l o') :=
  ⟨belowK_b hB W l o o' hl ho hc hw, fun g cs a => by
    have hg : W.grownBy (W.putObj l o') (some l) := grownBy_putObj' W l o'
    refine (hg.block g a.lt (fun e => ?_)).trans a
    have e2 : g = l := by cases e; rfl
    subst e2
    rw [show W.heap[g]? = _ from a] at ho
    cases ho
    cases hc⟩
theorem far_of_bel {B : Nat} {W W' : World} (h : Below B W W') : Far (fun i => B ≤ i) W W' := ⟨h.os, h.tape, h.output, h.size, fun k _ hn => h.block k (by omega)⟩
theorem Trs.kt {B : Nat} {W W' : World} {v : Value} {ts : List Tr} (h : Trs (fun b => b < B) W v ts) (k : Below B W W') : Trs (fun b => b < B) W' v ts := h.far (far_of_bel k) (fun b h1 _ h2 => by omega)
theorem textsL_take {b : List Tr} {k : Nat} {t : Tr} (h : b[k]? = some t) : textsL (b.take (k + 1)) = textsL (b.take k) ++ texts t := by
  rw [List.take_add_one, h, Option.toList_some]
  have : ∀ a : List Tr, textsL (a ++ [t]) = textsL a ++ texts t := fun a => by
    induction a with
    | nil => simp [textsL]
    | cons x a ih => simp [textsL, ih]
  exact this _
theorem textsL_pre (b : List Tr) (k : Nat) : textsL (b.take k) <+: textsL b := by
  have h := List.take_append_drop k b
  have : ∀ a c : List Tr, textsL (a ++ c) = textsL a ++ textsL c := fun a c => by
    induction a with
    | nil => simp [textsL]
    | cons x a ih => simp [textsL, ih]
  exact ⟨textsL (b.drop k), by rw [← this, h]⟩
theorem texts_len {b : List Tr} {t : Tr} (h : t ∈ b) : (texts t).length ≤ (textsL b).length := by
  induction b with
  | nil => cases h
  | cons x b ih =>
    simp only [textsL, List.length_append]
    rcases List.mem_cons.1 h with rfl | h
    · omega
    · have := ih h; omega
theorem texts_many : ∀ b : List Tr, b.length ≤ (textsL b).length
  | [] => Nat.le_refl _
  | t :: b => by
    have := texts_many b
    simp only [textsL, List.length_append, List.length_cons]
    rw [texts_eq, List.length_cons]
    omega
set_option maxRecDepth 100000 in
set_option maxHeartbeats 4000000 in
/-- What tell does, for every round that keeps its word. -/
theorem tell_in (l B N : Nat) (hNN : N ≤ 1000000) (J Jx : List Tx → World → Prop) (hJ : ∀ s W o, J s W → J s (W.alloc o))
    (hY : ∀ pre x W1, J pre W1 → pre.length < N → YieldAt Fence.wide 0 Tryz.prog l #[.string x.1] W1 fun e W' =>
      (e = .returned (.bool true) ∧ J (pre ++ [x]) W' ∧ Kt B W1 W') ∨ (e = .returned (.bool false) ∧ Jx (pre ++ [x]) W')) :
    ∀ (m : Nat) (t : Tr), (texts t).length ≤ m → (∀ x ∈ texts t, x.size ≤ 1000) → ∀ (n : Nat) (pre : List Tx) (W : World) (u : Value), B ≤ W.heap.size → Trs (fun b => b < B) W u t.b → J pre W → pre.length + (texts t).length ≤ N →
      CallsIn Fence.wide n Tryz.prog 72 #[.agg #[.string (tx t), u], .func (.yield l) #[] #[]] W fun e W' =>
        (e = .returned (.bool true) ∧ (∃ q, bareX q = texts t ∧ J (pre ++ q) W') ∧ Kt B W W') ∨ (e = .returned (.bool false) ∧ ∃ q, bareX q <+: texts t ∧ Jx (pre ++ q) W') := by
  intro m
  induction m with
  | zero =>
    intro t h
    rw [texts_eq] at h
    simp at h
  | succ m ih =>
    intro t hm hsz n pre W u hB ht hJ0 hN
    obtain ⟨A, c, rfl⟩ := ht.shape
    have hx0 : (tx t).size ≤ 1000 := hsz _ (tx_mem t)
    have hsub : ∀ s ∈ t.b, (texts s).length ≤ m ∧ ∀ x ∈ texts s, x.size ≤ 1000 := fun s hs => by
      have h1 := texts_len hs
      rw [texts_eq, List.length_cons] at hm
      exact ⟨by omega, fun x hx => hsz x (texts_sub hs hx)⟩
    have IH : Hid (∀ s ∈ t.b, ∀ (n : Nat) (pre : List Tx) (W : World) (u : Value), B ≤ W.heap.size → Trs (fun b => b < B) W u s.b → J pre W → pre.length + (texts s).length ≤ N →
      CallsIn Fence.wide n Tryz.prog 72 #[.agg #[.string (tx s), u], .func (.yield l) #[] #[]] W fun e W' =>
        (e = .returned (.bool true) ∧ (∃ q, bareX q = texts s ∧ J (pre ++ q) W') ∧ Kt B W W') ∨ (e = .returned (.bool false) ∧ ∃ q, bareX q <+: texts s ∧ Jx (pre ++ q) W')) := Lib.hid (fun s hs => ih s (hsub s hs).1 (hsub s hs).2)
    have hTL : (texts t).length = 1 + (textsL t.b).length := by rw [texts_eq, List.length_cons]; omega
    have al := (Kt.refl B W).alloc hB (.cells #[.string (tx t), .slice A t.b.length c] 67)
    have bx := Blk.new W 67 #[.string (tx t), .slice A t.b.length c]
    have j1 := hJ pre W (.cells #[.string (tx t), .slice A t.b.length c] 67) hJ0
    obtain ⟨fn, tmps, assign, body, hy, hRR⟩ := yieldAny (n - 1) (hY pre ⟨tx t, hx0⟩ _ j1 (by omega))
    have hy' : (Instr.yield l #[.string (tx t)]).run Tryz.prog (W.alloc (.cells #[.string (tx t), .slice A t.b.length c] 67)) = .ok (.round l fn tmps assign body) (W.alloc (.cells #[.string (tx t), .slice A t.b.length c] 67)) := hy
    have HTX : Hid (texts t = tx t :: textsL t.b) := Lib.hid (texts_eq t)
    have HRR := Lib.hid hRR
    have AL := Lib.hid al
    have BX := Lib.hid bx
    have TS := Lib.hid (ht.kt al.1)
    have HNN := Lib.hid hN
    have HJJ := Lib.hid hJ
    have HTL := Lib.hid hTL
    have BS : Hid (B ≤ (W.alloc (.cells #[.string (tx t), .slice A t.b.length c] 67)).heap.size) := Lib.hid (Nat.le_trans hB al.1.size)
    obtain ⟨T, hT⟩ : ∃ T, T = tx t := ⟨_, rfl⟩
    have HT := Lib.hid hT
    obtain ⟨x0, hx00⟩ : ∃ x : Tx, x.1 = T := ⟨⟨tx t, hx0⟩, hT.symm⟩
    have HX0 := Lib.hid hx00
    have hxx : (⟨tx t, hx0⟩ : Tx) = x0 := Subtype.ext (hT.symm.trans hx00.symm)
    rw [hxx] at HRR
    rw [← hT] at hy' HTX HRR AL BX TS BS ⊢
    clear hRR hy al bx ht hN hJ0 hJ hTL j1 hT hx00 hxx ih hsub hm hsz hB hx0
    refine callsIn_of_wp Tryz.func72 rfl trivial ?_ rfl
    simp only [Tryz.ntmps72, List.size_toArray, List.length_cons, List.length_nil, Nat.reduceAdd, Nat.reduceSub, Array.replicate_succ, Array.replicate_zero, List.push_toArray, List.append_toArray, List.nil_append, List.cons_append]
    gi_wp2_with fail
    refine ⟨fun h => (by cases h), ?_⟩
    refine HRR.out.mono ?_
    rintro e1 W3 (⟨rfl, hJ4, hk4⟩ | ⟨rfl, hJx4⟩)
    · have J3 := Lib.hid hJ4
      have K3 := Lib.hid hk4
      have BX3 := Lib.hid (hk4.2 _ _ BX.out)
      have B3 : Hid (B ≤ W3.heap.size) := Lib.hid (Nat.le_trans BS.out hk4.1.size)
      have TS3 := Lib.hid (TS.out.kt hk4.1)
      clear hJ4 hk4 HRR
      have c1 := BX3.out.cell 1
      simp only [List.getElem?_toArray, List.getElem?_cons_succ, List.getElem?_cons_zero] at c1
      obtain ⟨z, hz⟩ : ∃ z, z = t.b.length := ⟨_, rfl⟩
      have HZ := Lib.hid hz
      have ZL : Hid (z ≤ 1000000) := Lib.hid (by have h1 := texts_many t.b; have h2 := HTL.out; have h3 := HNN.out; omega)
      rw [← hz] at c1 TS3 ⊢
      clear hz
      gi_wp2_with fail
      gi_loopw [15] (fun vi wr => ∃ (k : Nat) (q : List Tx), vi = .int .i64 (k : Int) ∧ k ≤ z ∧ Hid (bareX q = T :: textsL (t.b.take k)) ∧ Hid (J (pre ++ q) wr) ∧ Hid (Kt B W3 wr)) (fun vi _ => z - (intOf vi).toNat)
      case atStart => exact ⟨0, [x0], rfl, Nat.zero_le _, Lib.hid (by simp [bareX, textsL, HX0.out]), J3, Lib.hid (Kt.refl _ _)⟩
      case round =>
        obtain ⟨k, q, rfl, hk, HQ, HJ, HK⟩ := hrel
        clear J3
        by_cases hlt : k < z
        · obtain ⟨s, hs⟩ : ∃ s, t.b[k]? = some s := ⟨_, List.getElem?_eq_getElem (by rw [← HZ.out]; exact hlt)⟩
          have hts := TS3.out.kt HK.out.1
          obtain ⟨b, o, c', u, hv, hb, hbl, d0, d1, hsu⟩ := hts.at_ hs
          simp only [Value.slice.injEq] at hv
          obtain ⟨rfl, -, -⟩ := hv
          obtain ⟨A', c'', hu⟩ := hsu.shape
          subst hu
          have BW : Hid (B ≤ wr.heap.size) := Lib.hid (Nat.le_trans B3.out HK.out.1.size)
          have AL2 := Lib.hid ((Kt.refl B wr).alloc BW.out (.cells #[.string (tx s), .slice A' s.b.length c''] 67))
          have BX2 := Lib.hid (Blk.new wr 67 #[.string (tx s), .slice A' s.b.length c''])
          have J2 := Lib.hid (HJJ.out _ _ (.cells #[.string (tx s), .slice A' s.b.length c''] 67) HJ.out)
          have TS2 := Lib.hid (hsu.kt AL2.out.1)
          have STEP := Lib.hid (textsL_take hs)
          have SM := Lib.hid (List.mem_of_getElem? hs)
          have PRE := Lib.hid (textsL_pre t.b (k + 1))
          have QL : Hid ((pre ++ q).length + (texts s).length ≤ N) := Lib.hid (by
            have h1 := congrArg List.length HQ.out
            rw [bareX_length, List.length_cons] at h1
            have h2 : (textsL (t.b.take (k + 1))).length ≤ (textsL t.b).length := PRE.out.length_le
            rw [STEP.out, List.length_append] at h2
            have h3 := HNN.out
            have h4 := HTL.out
            rw [List.length_append]
            omega)
          have i1 : (k : Int) < (z : Int) := by omega
          have wk : IntKind.i64.wrap ((k : Int) + 1) = (k : Int) + 1 := IntWalk.i64_in _ (by have := ZL.out; omega)
          have CT := Lib.hid (IH.out s SM.out (n - 1) (pre ++ q) _ _ (Nat.le_trans BW.out AL2.out.1.size) TS2.out J2.out QL.out)
          have cc0 := BX2.out.cell 0
          have cc1 := BX2.out.cell 1
          simp only [List.getElem?_toArray, List.getElem?_cons_succ, List.getElem?_cons_zero] at cc0 cc1
          generalize tx s = S at *
          clear hs hts hsu
          gi_wp2_with (first | (refine ⟨trivial, fun h => (by cases h), ?_⟩; gi_at_call 72; refine CT.out.mono ?_; clear CT; rintro e2 W5 (⟨rfl, ⟨q2, hq2, hj2⟩, hk2⟩ | ⟨rfl, q2, hq2, hx2⟩)))
          · have K2 := Lib.hid hk2
            have J5 := Lib.hid hj2
            have Q2 := Lib.hid hq2
            clear hq2 hj2 hk2
            gi_wp2_with fail
            go_roundw
            case rel => exact ⟨k + 1, q ++ q2, by go_num, by omega, Lib.hid (by rw [bareX_append, HQ.out, Q2.out, STEP.out]; rfl), Lib.hid (by rw [← List.append_assoc]; exact J5.out), Lib.hid ((HK.out.trans AL2.out).trans K2.out)⟩
            case measure => simp [intOf]; omega
          · have J5 := Lib.hid hx2
            have Q2 := Lib.hid hq2
            clear hq2 hx2
            gi_wp2_with fail
            go_ret
            refine .inr ⟨rfl, q ++ q2, ?_, by rw [← List.append_assoc]; exact J5.out⟩
            rw [bareX_append, HQ.out, HTX.out]
            refine List.IsPrefix.trans ?_ (List.cons_prefix_cons.2 ⟨rfl, PRE.out⟩)
            rw [STEP.out, List.cons_append]
            exact List.cons_prefix_cons.2 ⟨rfl, (List.prefix_append_right_inj _).2 Q2.out⟩
        · have i1 : ¬ (k : Int) < (z : Int) := by omega
          obtain rfl : k = z := by omega
          gi_wp2_with fail
          go_ret
          refine .inl ⟨rfl, ⟨q, ?_, HJ.out⟩, (AL.out.trans K3.out).trans HK.out⟩
          rw [HQ.out, HTX.out, HZ.out, List.take_length]
    · have JX := Lib.hid hJx4
      clear hJx4 HRR
      gi_wp2_with fail
      go_ret
      refine .inr ⟨rfl, [x0], ?_, JX.out⟩
      rw [HTX.out]
      simp [bareX, HX0.out]
set_option maxRecDepth 100000 in
set_option maxHeartbeats 2000000 in
/-- What texts's function does. -/
theorem texts1_in (n l B Bt : Nat) (t : Tr) (hsz : ∀ x ∈ texts t, x.size ≤ 1000) (hN : (texts t).length ≤ 1000000) (J Jx : List Tx → World → Prop) (W : World) (hB : B ≤ W.heap.size)
    (hJ : ∀ s W o, J s W → J s (W.alloc o))
    (hY : ∀ pre x W1, J pre W1 → pre.length < (texts t).length → YieldAt Fence.wide (n - 1) Tryz.prog l #[.string x.1] W1 fun e W' =>
      (e = .returned (.bool true) ∧ J (pre ++ [x]) W' ∧ Kt B W1 W') ∨ (e = .returned (.bool false) ∧ Jx (pre ++ [x]) W'))
    {u : Value} (hBt : Blk W Bt 67 #[.string (tx t), u]) (ht : Trs (fun b => b < B) W u t.b) (h0 : J [] W) :
    CallsIn Fence.wide n Tryz.prog 71 #[.func (.yield l) #[] #[], .pointer (some ⟨Bt, 0, none⟩)] W fun e W' => (∃ v, e = .returned v) ∧
      ((∃ ys, bareX ys = texts t ∧ J ys W') ∨ (∃ pre, bareX pre <+: texts t ∧ Jx pre W')) := by
  have hp := tell_in l B (texts t).length hN J Jx hJ (fun pre x W hj hl => yieldAny 0 (hY pre x W hj hl)) _ t (Nat.le_refl _) hsz (n - 1) [] W u hB ht h0 (by simp)
  obtain ⟨A, c, rfl⟩ := ht.shape
  have c0 := hBt.cell 0
  have c1 := hBt.cell 1
  simp only [List.getElem?_toArray, List.getElem?_cons_succ, List.getElem?_cons_zero] at c0 c1
  have HP := Lib.hid hp
  generalize tx t = T at *
  clear hp hJ hY hBt h0 ht hsz hN
  refine callsIn_of_wp Tryz.func71 rfl trivial ?_ rfl
  simp only [Tryz.ntmps71, List.size_toArray, List.length_cons, List.length_nil, Nat.reduceAdd, Nat.reduceSub, Array.replicate_succ, Array.replicate_zero, List.push_toArray, List.append_toArray, List.nil_append, List.cons_append]
  gi_wp2_with (first | (refine ⟨trivial, fun h => (by cases h), ?_⟩; gi_at_call 72; refine HP.out.mono ?_; clear HP; rintro e2 W5 (⟨rfl, ⟨q2, hq2, hj2⟩, hk2⟩ | ⟨rfl, q2, hq2, hx2⟩)))
  · go_end0
    exact ⟨⟨_, rfl⟩, .inl ⟨q2, hq2, hj2⟩⟩
  · go_end0
    exact ⟨⟨_, rfl⟩, .inr ⟨q2, hq2, hx2⟩⟩
/-- What texts hands back, for a loop over it. -/
theorem texts_stops (n B Bt : Nat) (t : Tr) (hsz : ∀ x ∈ texts t, x.size ≤ 1000) (hN : (texts t).length ≤ 1000000) (w : World) (hB : B ≤ w.heap.size) {u : Value} (hBt : Blk w Bt 67 #[.string (tx t), u]) (ht : Trs (fun b => b < B) w u t.b) :
    SeqStopsK Fence.wide n Tryz.prog 71 #[.pointer (some ⟨Bt, 0, none⟩)] (fun x : Tx => #[.string x.1]) (Kt B) (fun ys => bareX ys = texts t) (fun pre => bareX pre <+: texts t) (texts t).length w :=
  fun l J Jx W hW hJ _ hY h0 => texts1_in n l B Bt t hsz hN J Jx W (Nat.le_trans hB hW.size) (fun s X o h => hJ s X _ none h (World.grownBy_alloc X o none) (fun r e => by cases e)) hY (hBt.below hW) (ht.kt (hW.mono hB)) h0
set_option maxRecDepth 100000 in
/-- texts. -/
theorem texts_any (x : ByteArray) (A : Option Addr) (m c : Nat) (w : World) :
    Calls Tryz.prog 41 #[.agg #[.string x, .slice A m c]] w fun e w' => e = .returned (.func (.func 71) #[] #[.pointer (some ⟨w.heap.size, 0, none⟩)]) ∧ w' = w.alloc (.cells #[.string x, .slice A m c] 67) := by
  go_enter Tryz.func41, Tryz.ntmps41
  go_wp2_with fail
  go_ret
  exact ⟨rfl, rfl⟩
end Go.Proofs.YtfeonjiiijdibaaGreatDoor
namespace Go.Proofs.YtfeonjiiijdibaaGreatDoor
open Go.RowKit Go.Proofs.Nod Go.Proofs.Can
open Go.Proofs.Mdl hiding e0
set_option linter.unusedVariables false
set_option linter.unusedSimpArgs false
theorem zeroInt (w : World) : (zeroValue 3).run Tryz.prog w = .ok (.int .i64 0) w := by kernel_rfl
/-- Block m is a map of these counts (0: it is not there). -/
def Mi (w : World) (m : Nat) (f : ByteArray → Nat) (n : Nat) : Prop :=
  ∃ D : DataW Unit, w.ownsMap Tryz.prog 9 (plainElem Tryz.prog 3) m n D ∧ (∀ s, Maps.has D (kl s) = decide (¬ f s = 0)) ∧ (∀ s, ¬ f s = 0 → ∀ z, D.atKey (kl s) z = .lit (.int .i64 (f s : Int))) ∧ ∀ s, f s ≤ n
section
variable {w w' : World} {m n : Nat} {f : ByteArray → Nat}
theorem Mi.lt (h : Mi w m f n) : m < w.heap.size := by
  obtain ⟨D, h, _⟩ := h
  exact h.lt
theorem Mi.far {S : Nat → Prop} (h : Mi w m f n) (k : Far S w w') (hm : ¬ S m) : Mi w' m f n := by
  obtain ⟨D, ⟨es, clock, hb, F, hs, hD⟩, r⟩ := h
  exact ⟨D, ⟨es, clock, (k.block m (Array.getElem?_eq_some_iff.1 hb).1 hm).trans hb, F, hs, hD⟩, r⟩
theorem Mi.below (h : Mi w m f n) (k : Below w.heap.size w w') : Mi w' m f n := h.far (far_of_below k) (fun h => h)
theorem Mi.new (w : World) : Mi (w.alloc (.map #[] 0)) w.heap.size (fun _ => 0) 0 :=
  ⟨_, World.ownsMap_made w _ _ _, fun s => rfl, fun s h => absurd rfl h, fun s => Nat.le_refl _⟩
theorem Mi.look (h : Mi w m f n) (s : ByteArray) (hs : s.size ≤ maxLen) :
    (Instr.lookup 70 (.map (some m)) (.string s) false).run Tryz.prog w = .ok (.int .i64 (f s : Int)) w := by
  obtain ⟨D, h, hh, ha, _⟩ := h
  obtain ⟨c, hrun, hat, hw⟩ := h.lookup_int strKeyed Tryz.underlying70 Tryz.underlying3 (zeroInt w) (Go.WideMaps.keyOf_string_mk Tryz.underlying9 hs)
  rw [hrun]
  have hat' : D.atKey (kl s) (.lit (.int .i64 0)) = .lit (.int .i64 c) := hat
  by_cases hc : f s = 0
  · rw [Maps.atKey_of_not_has (by rw [hh, decide_eq_false (fun h => h hc)])] at hat'
    rw [hc]
    simp only [DataW.lit.injEq, Go.Lit.int.injEq, true_and] at hat'
    rw [← hat']; rfl
  · rw [ha s hc] at hat'
    simp only [DataW.lit.injEq, Go.Lit.int.injEq, true_and] at hat'
    rw [← hat']
theorem Mi.put (h : Mi w m f n) (s : ByteArray) (hs : s.size ≤ maxLen) (hl : n < 1000000) :
    ∃ w', (Instr.mapUpdate 70 (.map (some m)) (.string s) (.int .i64 ((f s : Int) + 1))).run Tryz.prog w = .ok () w' ∧ Mi w' m (fun t => if s = t then f t + 1 else f t) (n + 1) ∧ w.grownBy w' (some m) := by
  obtain ⟨D, h, hh, ha, hn⟩ := h
  have hfs := hn s
  obtain ⟨w', hrun, hown, hg⟩ := h.update (val := .int .i64 ((f s : Int) + 1)) strKeyed Tryz.underlying70 (by unfold maxLen; omega) (Go.WideMaps.keyOf_string_mk Tryz.underlying9 hs) (plainElem_int Tryz.underlying3 (WalkArith.wf_i64 (by omega)))
  refine ⟨w', hrun, ⟨D.put (kl s) (.lit (.int .i64 ((f s : Int) + 1))), hown, ?_, ?_, ?_⟩, hg⟩
  · intro t
    by_cases e : s = t
    · subst e
      rw [show Maps.has (D.put (kl s) _) (kl s) = true from Maps.has_put_same h.isMap (kl_key s) _]
      simp
    · rw [show Maps.has (D.put (kl s) _) (kl t) = Maps.has D (kl t) from Maps.has_put_other (fun h => e (kl_inj h).symm) _, hh]
      simp [e]
  · intro t ht z
    by_cases e : s = t
    · subst e
      show _ = DataW.lit (Go.Lit.int IntKind.i64 (((if s = s then f s + 1 else f s : Nat)) : Int))
      rw [if_pos rfl]
      exact Maps.atKey_put_same h.isMap (kl_key s) _ _
    · have ht' : ¬ (if s = t then f t + 1 else f t) = 0 := ht
      rw [if_neg e] at ht'
      show _ = DataW.lit (Go.Lit.int IntKind.i64 (((if s = t then f t + 1 else f t : Nat)) : Int))
      rw [if_neg e]
      rw [show (D.put (kl s) _).atKey (kl t) z = D.atKey (kl t) z from Maps.atKey_put_other (fun h => e (kl_inj h).symm) _ _]
      exact ha t ht' z
  · intro t
    have := hn t
    show (if s = t then f t + 1 else f t) ≤ n + 1
    split <;> omega
/-- What is turned is no cells. -/
theorem Blk.turned {B : Nat} {g : Nat} {T : TypeId} {cs : Array Value} {row : Option Nat} (h : Blk w g T cs) (hg : w.grownBy w' row) (hr : ∀ r, row = some r → B ≤ r ∧ ∃ o : Obj, w.heap[r]? = some o ∧ o.isCells = false) : Blk w' g T cs := by
  refine h.grown hg (fun e => ?_)
  obtain ⟨_, o, ho, hc⟩ := hr g e
  rw [show w.heap[g]? = _ from h] at ho
  cases ho
  cases hc
theorem own_turned {B base k n : Nat} {T : TypeId} {v : Value} {xs : List Value} {row : Option Nat} (h : w.ownsRow base T k v n xs) (hg : w.grownBy w' row) (hr : ∀ r, row = some r → B ≤ r ∧ ∃ o : Obj, w.heap[r]? = some o ∧ o.isCells = false) : w'.ownsRow base T k v n xs := by
  refine ⟨h.1, h.2.imp id ?_⟩
  rintro ⟨g, cap, cur, rfl, h2, h3, h4⟩
  refine ⟨g, cap, cur, rfl, h2, (hg.block g (Array.getElem?_eq_some_iff.1 h3).1 (fun e => ?_)).trans h3, h4⟩
  obtain ⟨_, o, ho, hc⟩ := hr g e.symm
  rw [h3] at ho
  cases ho
  cases hc
theorem Mi.turned {B : Nat} {row : Option Nat} (h : Mi w m f n) (hm : m < B) (hg : w.grownBy w' row) (hr : ∀ r, row = some r → B ≤ r ∧ ∃ o : Obj, w.heap[r]? = some o ∧ o.isCells = false) : Mi w' m f n := by
  have F : Far (fun i => row = some i) w w' := (Far.refl (fun i => row = some i) w).grown hg (fun i _ e => e)
  exact h.far F (fun e => by have := (hr m e).1; omega)
end
/-- How often a text is in a list. -/
def cntB (l : List ByteArray) (s : ByteArray) : Nat := (l.filter (fun y => decide (y = s))).length
theorem cntB_cons (x : ByteArray) (l : List ByteArray) (s : ByteArray) : cntB (x :: l) s = if x = s then cntB l s + 1 else cntB l s := by
  unfold cntB
  rw [List.filter_cons]
  by_cases h : x = s
  · rw [if_pos (by simpa using h), if_pos h]; rfl
  · rw [if_neg (by simpa using h), if_neg h]
theorem cntB_zero {l : List ByteArray} {s : ByteArray} : cntB l s = 0 ↔ s ∉ l := by
  unfold cntB
  rw [List.length_eq_zero_iff, List.filter_eq_nil_iff]
  constructor
  · intro h hs
    exact h s hs (by simp)
  · intro h x hx e
    have : x = s := by simpa using e
    exact h (this ▸ hx)
theorem cntB_pick (s : List ByteArray × List ByteArray) (x : ByteArray) : cntB (pick s x).1 = fun t => if x = t then cntB s.1 t + 1 else cntB s.1 t := by
  funext t
  exact cntB_cons x s.1 t
end Go.Proofs.YtfeonjiiijdibaaGreatDoor
namespace Go.Proofs.YtfeonjiiijdibaaGreatDoor
open Go.RowKit Go.Shelf Go.Proofs.Nod Go.Proofs.Can
open Go.Proofs.Mdl hiding e0
attribute [local go_sem] Oper.semAt_some
set_option linter.unusedVariables false
set_option linter.unusedSimpArgs false
theorem elemStr : Tryz.prog.underlying 29 = some (.slice 9) := Tryz.underlying29
set_option maxRecDepth 100000 in
set_option maxHeartbeats 2000000 in
theorem nodes_far {w : World} {v : Value} {l : List Ent} (h : Es w v l) (hl : l.length ≤ 9223372036854775807) (h0 : ¬ checkN l = 0) :
    Calls Tryz.prog 16 #[v] w fun e w' => e = .returned (.tuple #[.slice none 0 0, .int .i64 (checkN l)]) ∧ Below w.heap.size w w' := by
  have WH := Lib.hid (whole_far h hl h0)
  obtain ⟨A, c, rfl⟩ := h.shape
  have e1 : (checkN l != 0) = true := by simpa using h0
  generalize checkN l = q at *
  clear h hl h0
  go_enter Tryz.func16, Tryz.ntmps16
  go_wp2_with (first | (go_at_call 40; refine WH.out.mono ?_; rintro e w2 ⟨rfl, hb2⟩; have HB := Lib.hid hb2; clear hb2))
  go_ret2
  exact ⟨rfl, HB.out.alloc HB.out.size _⟩
theorem nodes_err {w : World} {v : Value} {l : List Ent} (h : Es w v l) (hl : l.length ≤ 1000) (h0 : ¬ checkN l = 0) :
    Calls Tryz.prog 16 #[v] w fun e w' => e = .returned (.tuple #[.slice none 0 0, .int .i64 (checkN l)]) ∧ Below w.heap.size w w' := nodes_far h (by omega) h0
/-- What lies between two rounds. -/
def NI (B N M m P7 R0 : Nat) (root : ByteArray) (w : World) (pre : List Tx) (W : World) : Prop :=
  ((∃ v, Blk W M 29 #[v] ∧ W.ownsRow R0 9 1 v (picks root (bareX pre)).2.length ((picks root (bareX pre)).2.map Value.string)) ∧ Mi W m (cntB (picks root (bareX pre)).1) (pre.length + 1) ∧ Blk W P7 70 #[.map (some m)]) ∧ Below N w W
theorem NI.own {B N M m P7 R0 : Nat} {root : ByteArray} {w : World} (hm : m < B) (hN : N ≤ w.heap.size) (hB : N ≤ B) : OwnFrom B (NI B N M m P7 R0 root w) :=
  OwnFrom.and (fun s W W' row h hg hr => by
    obtain ⟨⟨v, h1, h2⟩, h3, h4⟩ := h
    exact ⟨⟨v, h1.turned hg hr, own_turned h2 hg hr⟩, h3.turned hm hg hr, h4.turned hg hr⟩) (ownFrom_below hN hB)
/-- The nodes' bytes are short. -/
theorem texts_size : ∀ {l : List Ent}, Wf l → ∀ x ∈ texts (treeP l), x.size ≤ 1000 := by
  have key : ∀ (n : Nat) (l : List Ent), Wf l → tot l < n → ∀ x ∈ texts (grow n l), x.size ≤ 1000 := by
    intro n
    induction n with
    | zero => intro l _ h; omega
    | succ n ih =>
      intro l hl ht x hx
      rw [texts_eq] at hx
      rcases List.mem_cons.1 hx with rfl | hx
      · have := tx_size (grow_ok _ l hl ht)
        omega
      · obtain ⟨s, hs, hxs⟩ := textsL_mem.1 hx
        rcases l with _ | ⟨a, _ | ⟨b, r⟩⟩
        · cases hs
        · cases hs
        · obtain ⟨z, hz⟩ : ∃ z, (a :: b :: r).getLast? = some z := ⟨_, List.getLast?_eq_some_getLast (List.cons_ne_nil _ _)⟩
          rw [grow_two n (by simp) rfl hz] at hs
          by_cases hc : 0 < com a.k z.k
          · rw [if_pos hc] at hs
            have ha := all_take hl.up hz (Nat.le_refl _)
            have h1 := (ha a (List.mem_cons_self ..)).1
            have hlt := tot_wo_lt hc (List.mem_cons_self (a := a) (l := b :: r)) (by omega)
            rcases List.mem_singleton.1 hs with rfl
            exact ih _ (hl.wo (fun e he => (ha e he).2)) (by omega) x hxs
          · rw [if_neg hc] at hs
            obtain ⟨i, _, hi⟩ := List.mem_filterMap.1 hs
            by_cases h0 : atL i (a :: b :: r) = []
            · rw [if_pos h0] at hi; cases hi
            · rw [if_neg h0] at hi
              cases hi
              have := tot_at h0
              exact ih _ (hl.at_ i) (by omega) x hxs
  intro l hl
  exact key _ l hl (Nat.lt_succ_self _)
theorem texts_count {l : List Ent} (hg : Mdl.Good l) : (texts (treeM l)).length ≤ 1000 := by
  have hf := hg.few
  rcases hl : l with _ | ⟨a, r⟩
  · decide +kernel
  · have h1 := (grow_count _ (pathsL l) (Wf.paths hg) (Nat.lt_succ_self _) (by rw [paths_length, hl]; simp)).1
    rw [paths_length] at h1
    rw [← hl]
    have h2 : (texts (treeM l)).length + 2 ≤ 3 * l.length := h1
    omega
theorem own_text (w : World) (T : TypeId) (x : Value) (h : x.oneCell' = true) : (w.alloc (.cells #[x] T)).ownsRow w.heap.size T 1 (.slice (some ⟨w.heap.size, 0, none⟩) 1 1) 1 [x] :=
  ⟨by simp, .inr ⟨w.heap.size, 1, #[x], rfl, Nat.le_refl _, Blk.new w T #[x], Nat.le_refl _, by decide, by simp, by simp⟩⟩
theorem Sl.one (W : World) (x : ByteArray) : Sl (W.alloc (.cells #[.string x] 9)) (.slice (some ⟨W.heap.size, 0, none⟩) 1 1) [x] := Sl.of_own (xs := [x]) (own_text W 9 (.string x) rfl)
theorem bytes_eqC {X T : ByteArray} : (X.toList == T.toList) = decide (X = T) := by
  rw [Lib.toList_data, Lib.toList_data]
  by_cases h : X = T
  · subst h; simp
  · rw [decide_eq_false h]
    simp only [beq_eq_false_iff_ne]
    exact fun e => h (ByteArray.ext (Array.toList_inj.1 e))
theorem nodesT_eq (t : Tr) : nodesT t = (picks (tx t) (texts t)).2 := rfl
/-- What a round keeps: the map's turn, a row's, a box's. -/
theorem Kt.map {B m n : Nat} {f : ByteArray → Nat} {W W' : World} (h : Mi W m f n) (hg : W.grownBy W' (some m)) (hB : B ≤ m) : Kt B W W' :=
  ⟨(Below.refl B W).grown hg (Nat.le_of_lt (Nat.lt_of_le_of_lt hB h.lt)) (fun k e => by cases e; exact hB), fun g cs a => a.grown hg (fun e => by
    obtain ⟨D, ⟨es, clock, hb, _⟩, _⟩ := h
    have e2 : m = g := Option.some.inj e
    subst e2
    rw [show W.heap[m]? = _ from a] at hb
    cases hb)⟩
theorem Kt.row {B base k n : Nat} {T : TypeId} {v : Value} {xs : List Value} {W W' : World} (h : W.ownsRow base T k v n xs) (hT : T ≠ 67) (hg : W.grownBy W' v.ownBlock) (hB : B ≤ base) (hW : B ≤ W.heap.size) : Kt B W W' :=
  ⟨(Below.refl B W).grown hg hW (fun k e => Nat.le_trans hB (h.lt k e).1), fun g cs a => a.grown hg (fun e => by
    rcases h.2 with ⟨rfl, _⟩ | ⟨g', cap, cur, rfl, _, hg', _⟩
    · cases e
    · have e2 : g' = g := Option.some.inj e
      subst e2
      rw [show W.heap[g']? = _ from a] at hg'
      cases hg'
      exact hT rfl)⟩
theorem Kt.cell {B M : Nat} {T : TypeId} {cs : Array Value} {W : World} (h : Blk W M T cs) (hT : T ≠ 67) (hB : B ≤ M) (i : Nat) (u : Value) : Kt B W (W.setCell ⟨M, i, none⟩ u) :=
  ⟨(Below.refl B W).setCell (p := ⟨M, i, none⟩) hB u, fun g ds a => a.other (fun e => by
    have e2 : g = M := e
    subst e2
    have := show W.heap[g]? = _ from a
    rw [show W.heap[g]? = _ from h] at this
    cases this
    exact hT rfl) u⟩
theorem Kt.of_below {B : Nat} {W W' : World} (h : Below W.heap.size W W') (hB : B ≤ W.heap.size) : Kt B W W' := ⟨h.mono hB, fun g cs a => a.below h⟩
theorem tree_ne_str : 9 ≠ 67 := by decide
theorem tree_ne_strs : 29 ≠ 67 := by decide
set_option maxRecDepth 100000 in
set_option maxHeartbeats 8000000 in
theorem nodes_ok {w : World} {v : Value} {l : List Ent} (h : Es w v l) (hg : Mdl.Good l) (hL : LaidN w) :
    Calls Tryz.prog 16 #[v] w fun e w' => ∃ v', e = .returned (.tuple #[v', .int .i64 0]) ∧ w'.ownsRow w.heap.size 9 1 v' (nodesT (treeM l)).length ((nodesT (treeM l)).map Value.string) ∧ Below w.heap.size w w' := by
  have WH := Lib.hid (whole_ok h hg hL)
  have LA : Hid (∀ W, Below w.heap.size w W → LaidN W) := Lib.hid (fun W h => hL.on h)
  have SZ : Hid (∀ x ∈ texts (treeM l), x.size ≤ 1000) := Lib.hid (texts_size (Wf.paths hg))
  have MANY : Hid ((texts (treeM l)).length ≤ 1000) := Lib.hid (texts_count hg)
  have TSZ : Hid ((tx (treeM l)).size ≤ 1000) := Lib.hid (SZ.out _ (tx_mem _))
  rw [nodesT_eq]
  generalize treeM l = XT at *
  obtain ⟨A, c, rfl⟩ := h.shape
  clear h hg hL
  have hmm := @run_makeMap Tryz.prog
  refine (callsIn_wide (n := 5)).1 ?_
  refine callsIn_of_wp_marks Tryz.func16 rfl trivial ?_ rfl
  simp only [Tryz.ntmps16, List.size_toArray, List.length_cons, List.length_nil, Nat.reduceAdd, Nat.reduceSub, Array.replicate_succ, Array.replicate_zero, List.push_toArray, List.append_toArray, List.nil_append, List.cons_append]
  gi_upto_region 5 with (first | (refine ⟨trivial, ?_⟩; refine (callsIn_wide.2 WH.out).mono ?_; rintro e w2 ⟨v2, rfl, ⟨u2, hv2, hts⟩, hb2⟩; have TS2 := Lib.hid hts; obtain ⟨A2, c2, hu2⟩ := hts.shape; subst hv2; subst hu2; have B2 := Lib.hid hb2; clear hts hb2))
  obtain ⟨T, hT⟩ : ∃ T, T = tx XT := ⟨_, rfl⟩
  have HT := Lib.hid hT
  rw [← hT] at TSZ ⊢
  clear hT
  have G3 := Lib.hid (((Blk.new w2 67 #[.string T, .slice A2 XT.b.length c2]).alloc (.cells #[.string T] 9)).alloc (.cells #[.slice (some ⟨w2.heap.size + 1, 0, none⟩) 1 1] 29))
  have R3 : Hid (((w2.alloc (.cells #[.string T, .slice A2 XT.b.length c2] 67)).alloc (.cells #[.string T] 9)).ownsRow (w2.heap.size + 1) 9 1 (.slice (some ⟨w2.heap.size + 1, 0, none⟩) 1 1) 1 [.string T]) := Lib.hid (by
    have := own_text (w2.alloc (.cells #[.string T, .slice A2 XT.b.length c2] 67)) 9 (.string T) rfl
    rwa [World.size_alloc] at this)
  have R4 := Lib.hid (World.ownsRow.alloc R3.out (.cells #[.slice (some ⟨w2.heap.size + 1, 0, none⟩) 1 1] 29))
  have M3 : Hid (Blk (((w2.alloc (.cells #[.string T, .slice A2 XT.b.length c2] 67)).alloc (.cells #[.string T] 9)).alloc (.cells #[.slice (some ⟨w2.heap.size + 1, 0, none⟩) 1 1] 29)) (w2.heap.size + 1 + 1) 29 #[.slice (some ⟨w2.heap.size + 1, 0, none⟩) 1 1]) := Lib.hid (by
    have := Blk.new ((w2.alloc (.cells #[.string T, .slice A2 XT.b.length c2] 67)).alloc (.cells #[.string T] 9)) 29 #[.slice (some ⟨w2.heap.size + 1, 0, none⟩) 1 1]
    rwa [World.size_alloc, World.size_alloc] at this)
  have B3 := Lib.hid ((((Bl.start w).call B2.out).alloc (.cells #[.string T, .slice A2 XT.b.length c2] 67)).alloc (.cells #[.string T] 9))
  have B4 := Lib.hid (B3.out.alloc (.cells #[.slice (some ⟨w2.heap.size + 1, 0, none⟩) 1 1] 29))
  have al := (((Below.refl w2.heap.size w2).alloc (Nat.le_refl _) (.cells #[.string T, .slice A2 XT.b.length c2] 67)).alloc (by simp) (.cells #[.string T] 9)).alloc (by simp; omega) (.cells #[.slice (some ⟨w2.heap.size + 1, 0, none⟩) 1 1] 29)
  have TS4 := Lib.hid ((TS2.out.mono (N' := fun b => b < w2.heap.size) (fun b _ h => h)).stay al)
  have NW : Hid (w.heap.size ≤ w2.heap.size) := Lib.hid B2.out.size
  clear al R3 B2 B3 TS2
  have SZ4 : Hid ((((w2.alloc (.cells #[.string T, .slice A2 XT.b.length c2] 67)).alloc (.cells #[.string T] 9)).alloc (.cells #[.slice (some ⟨w2.heap.size + 1, 0, none⟩) 1 1] 29)).heap.size = w2.heap.size + 3) := Lib.hid (by simp)
  generalize ((w2.alloc (.cells #[.string T, .slice A2 XT.b.length c2] 67)).alloc (.cells #[.string T] 9)).alloc (.cells #[.slice (some ⟨w2.heap.size + 1, 0, none⟩) 1 1] 29) = w4 at *
  generalize w2.heap.size = g at *
  obtain ⟨m, hm⟩ : ∃ m, m = w4.heap.size := ⟨_, rfl⟩
  have HM := Lib.hid hm
  obtain ⟨w5, hput, hmi, hgr⟩ := (Mi.new w4).put T (by have := TSZ.out; unfold maxLen; omega) (by decide)
  rw [← hm] at hput hmi hgr
  have hput' : (Instr.mapUpdate 70 (.map (some m)) (.string T) (.int .i64 1)).run Tryz.prog (w4.alloc (.map #[] 0)) = .ok () w5 := hput
  have F5 : Hid (Far (fun i => i = m) w4 w5) := Lib.hid (((Far.refl (fun i => i = m) w4).alloc (.map #[] 0)).grown hgr (fun i _ e => (Option.some.inj e).symm))
  have SZ5 : Hid (m < w5.heap.size) := Lib.hid hmi.lt
  have MI5 := Lib.hid hmi
  have MM : Hid (m = g + 3) := Lib.hid (by rw [hm]; exact SZ4.out)
  have G5 := Lib.hid (G3.out.far F5.out (fun e => by have := MM.out; omega))
  have R5 := Lib.hid (own_far R4.out F5.out (fun i hi e => by have e2 : i = m := e; have h1 : g + 1 = i := Option.some.inj hi; have := MM.out; omega))
  have M5 := Lib.hid (M3.out.far F5.out (fun e => by have := MM.out; omega))
  have TS5 := Lib.hid (TS4.out.far F5.out (fun b _ hb e => by have e2 : b = m := e; omega))
  have B5 := Lib.hid (Far.bl B4.out F5.out (fun i e => by rw [e]; have := MM.out; have := NW.out; omega))
  have t0 := (G3.out.alloc (.map #[] 0)).cell 0
  simp only [List.getElem?_toArray, List.getElem?_cons_zero] at t0
  rw [hm] at hput'
  clear hm hput hmi hgr G3 R4 M3 B4 TS4
  gi_upto_region 6 with (fail)
  rw [← HM.out]
  have P6 := Lib.hid (Blk.new w5 70 #[.map (some m)])
  have G6 := Lib.hid (G5.out.alloc (.cells #[.map (some m)] 70))
  have R6 := Lib.hid (World.ownsRow.alloc R5.out (.cells #[.map (some m)] 70))
  have M6 := Lib.hid (M5.out.alloc (.cells #[.map (some m)] 70))
  have al : Below w5.heap.size w5 (w5.alloc (.cells #[.map (some m)] 70)) := (Below.refl _ _).alloc (Nat.le_refl _) _
  have MI6 := Lib.hid (MI5.out.below al)
  have TS6 := Lib.hid (TS5.out.stay al)
  have B6 := Lib.hid (B5.out.alloc (.cells #[.map (some m)] 70))
  have SZ6 : Hid (w5.heap.size < (w5.alloc (.cells #[.map (some m)] 70)).heap.size) := Lib.hid P6.out.lt
  generalize w5.alloc (.cells #[.map (some m)] 70) = w6 at *
  generalize w5.heap.size = p at *
  clear al G5 R5 M5 MI5 TS5 B5 t0 hput' F5
  have t0 := G6.out.cell 0
  have t1 := G6.out.cell 1
  simp only [List.getElem?_toArray, List.getElem?_cons_succ, List.getElem?_cons_zero] at t0 t1
  gi_wp2_with (first | (refine ⟨trivial, ?_⟩; refine (callsIn_wide.2 (texts_any _ _ _ _ _)).mono ?_; rintro e w' ⟨rfl, rfl⟩))
  have al2 : Below w6.heap.size w6 (w6.alloc (.cells #[.string T, .slice A2 XT.b.length c2] 67)) := (Below.refl _ _).alloc (Nat.le_refl _) _
  have T7 := Lib.hid (Blk.new w6 67 #[.string T, .slice A2 XT.b.length c2])
  have P7 := Lib.hid (P6.out.below al2)
  have R7 := Lib.hid (own_below R6.out al2)
  have M7 := Lib.hid (M6.out.below al2)
  have MI7 := Lib.hid (MI6.out.below al2)
  have TS7 := Lib.hid (TS6.out.stay al2)
  have B7 := Lib.hid (B6.out.alloc (.cells #[.string T, .slice A2 XT.b.length c2] 67))
  have SZ7 : Hid (w6.heap.size < (w6.alloc (.cells #[.string T, .slice A2 XT.b.length c2] 67)).heap.size) := Lib.hid T7.out.lt
  clear al2 t0 t1 G6 P6 R6 M6 MI6 TS6 B6
  generalize w6.alloc (.cells #[.string T, .slice A2 XT.b.length c2] 67) = w7 at *
  obtain ⟨Bt, hBt⟩ : ∃ b, b = w6.heap.size := ⟨_, rfl⟩
  rw [← hBt] at T7 SZ6 SZ7 ⊢
  clear hBt
  have NI0 : NI w7.heap.size w.heap.size (g + 1 + 1) m p (g + 1) T w [] w7 := ⟨⟨⟨_, M7.out, R7.out⟩, by
    have h1 : cntB (picks T (bareX [])).1 = fun t => if T = t then (0 : Nat) + 1 else 0 := by
      funext t
      exact cntB_cons T [] t
    rw [h1]
    exact MI7.out, P7.out⟩, B7.out.1⟩
  refine wpIn_rangeFunc_ownG rfl (by decide) (gf := 71) (lb := #[.pointer (some ⟨Bt, 0, none⟩)]) rfl trivial (enters_of Tryz.func71 (by kernel_rfl) rfl)
    (texts_stops 4 g Bt XT SZ.out (Nat.le_trans MANY.out (by decide)) w7 (by have := SZ7.out; have := SZ6.out; have := SZ5.out; have := MM.out; omega) (by rw [← HT.out]; exact T7.out) TS7.out)
    (fun h k => Kt.trans h k) (fun W l o o' h1 h2 h3 h4 => Kt.book (by have := SZ7.out; have := SZ6.out; have := SZ5.out; have := MM.out; omega) W l o o' h1 h2 h3 h4) (Below.refl _ _) (fun _ => rfl)
    (NI w7.heap.size w.heap.size (g + 1 + 1) m p (g + 1) T w)
    (fun c pre W => False)
    (NI.own (by have := SZ7.out; have := SZ6.out; have := SZ5.out; omega) (Nat.le_refl _) (by have := SZ7.out; have := SZ6.out; have := SZ5.out; have := MM.out; have := NW.out; omega))
    (fun c => ownFrom_pure _ _)
    NI0
    (fun x => { tmps := #[.slice A l.length c, undef, .slice none 0 0, .int .i64 0, .pointer (some ⟨g, 0, none⟩), .int .i64 0, .pointer (some ⟨g + 1 + 1, 0, none⟩), .pointer (some ⟨p, 0, none⟩), .string x.1,
      .tuple #[.agg #[.string T, .slice A2 XT.b.length c2], .int .i64 0], .slice A l.length c, .tuple #[.agg #[.string T, .slice A2 XT.b.length c2], .int .i64 0], .agg #[.string T, .slice A2 XT.b.length c2], .int .i64 0, .int .i64 0,
      .bool false, undef, .pointer (some ⟨g, 0, none⟩), .string T, .slice (some ⟨g + 1, 0, none⟩) 1 1, .map (some m), .pointer (some ⟨g, 0, none⟩), .string T, .map (some m), .agg #[.string T, .slice A2 XT.b.length c2],
      .func (.func 71) #[] #[.pointer (some ⟨Bt, 0, none⟩)], .string x.1, undef, undef, undef, undef, undef, undef, undef, undef, undef, undef, undef, undef, undef, undef, undef, undef, undef, undef, undef], defers := [] }) ?assign ?body ?done ?stop
  case assign =>
    intro l x W K hK
    gi_wp2
    exact hK
  case body =>
    rintro l pre x W ⟨⟨⟨v, hM, hrow⟩, hmi, hP⟩, hB⟩ hlen
    obtain ⟨A6, c6, hv6⟩ := own_shape hrow
    subst hv6
    have hx := x.2
    obtain ⟨W1, hput, hmi1, hgr1⟩ := hmi.put x.1 (by unfold maxLen; omega) (by have := MANY.out; omega)
    have hlook := hmi.look x.1 (by unfold maxLen; omega)
    have hlook1 := hmi1.look x.1 (by unfold maxLen; omega)
    rw [if_pos rfl] at hlook1
    have hcn : cntB (picks T (bareX pre)).1 x.1 ≤ pre.length + 1 := by
      obtain ⟨D, _, _, _, h⟩ := hmi
      exact h _
    have hstep : bareX (pre ++ [x]) = bareX pre ++ [x.1] := by simp [bareX]
    have hps := picks_snoc T (bareX pre) x.1
    rw [← hstep] at hps
    have hseen := picked T (bareX pre)
    have hoff : offB (picks T (bareX pre)).1 x.1 = true ↔ (x.1 ∈ (picks T (bareX pre)).1 ∨ refB x.1 = x.1) := offB_iff _ _
    have hz : cntB (picks T (bareX pre)).1 x.1 = 0 ↔ x.1 ∉ (picks T (bareX pre)).1 := cntB_zero
    have hpk : (picks T (bareX (pre ++ [x]))).2 = if offB (picks T (bareX pre)).1 x.1 then (picks T (bareX pre)).2 else (picks T (bareX pre)).2 ++ [x.1] := by rw [hps]; rfl
    have hpf : cntB (picks T (bareX (pre ++ [x]))).1 = fun t => if x.1 = t then cntB (picks T (bareX pre)).1 t + 1 else cntB (picks T (bareX pre)).1 t := by rw [hps]; exact cntB_pick _ _
    have hfew := hseen.few
    rw [bareX_length] at hfew
    have K1 := Lib.hid (Kt.map (B := g) hmi hgr1 (by have := MM.out; omega))
    have KF1 : Hid (KeepsFrom w7.heap.size W W1) := Lib.hid (KeepsFrom.of_grownBy hgr1 (fun j e => by cases e; have := SZ5.out; have := SZ6.out; have := SZ7.out; omega))
    have F1 : Hid (Far (fun i => i = m) W W1) := Lib.hid ((Far.refl (fun i => i = m) W).grown hgr1 (fun i _ e => (Option.some.inj e).symm))
    have hMm : ¬ g + 1 + 1 = m := by have := MM.out; omega
    have hPm : ¬ p = m := by have := SZ5.out; omega
    have M1 := Lib.hid (hM.far F1.out hMm)
    have P1 := Lib.hid (hP.far F1.out hPm)
    have hrb : ∀ i, (Value.slice A6 (picks T (bareX pre)).2.length c6).ownBlock = some i → ¬ i = m := fun i hi e => by
      subst e
      rcases hrow.2 with ⟨h1, _⟩ | ⟨g', cap, cur, h1, _, hg', _⟩
      · rw [h1] at hi; cases hi
      · rw [h1] at hi
        have e2 : g' = i := Option.some.inj hi
        subst e2
        obtain ⟨D, ⟨es, clock, hb, _⟩, _⟩ := hmi
        rw [hg'] at hb
        cases hb
    have R1 := Lib.hid (own_far hrow F1.out hrb)
    have MROW := Lib.hid hrb
    have MN := Lib.hid hMm
    have MR : Hid (∀ i, (Value.slice A6 (picks T (bareX pre)).2.length c6).ownBlock = some i → ¬ i = g + 1 + 1) := Lib.hid (fun i hi e => by
      subst e
      rcases hrow.2 with ⟨h1, _⟩ | ⟨g', cap, cur, h1, _, hg', _⟩
      · rw [h1] at hi; cases hi
      · rw [h1] at hi
        have e2 : g' = g + 1 + 1 := Option.some.inj hi
        subst e2
        have := show W.heap[g + 1 + 1]? = _ from hM
        rw [hg'] at this
        simp only [Option.some.injEq, Obj.cells.injEq] at this
        exact absurd this.2.1 (by decide))
    have PR : Hid (∀ i, (Value.slice A6 (picks T (bareX pre)).2.length c6).ownBlock = some i → ¬ i = p) := Lib.hid (fun i hi e => by
      subst e
      rcases hrow.2 with ⟨h1, _⟩ | ⟨g', cap, cur, h1, _, hg', _⟩
      · rw [h1] at hi; cases hi
      · rw [h1] at hi
        have e2 : g' = i := Option.some.inj hi
        subst e2
        have := show W.heap[g']? = _ from hP
        rw [hg'] at this
        simp only [Option.some.injEq, Obj.cells.injEq] at this
        exact absurd this.2.1 (by decide))
    have GW1 : Hid (g ≤ W1.heap.size) := Lib.hid (by have := M1.out.lt; omega)
    have B1 := Lib.hid (hB.trans (K1.out.1.mono NW.out))
    have mc := M1.out.cell 0
    have mf := M1.out.frozen 0
    have pc := hP.cell 0
    have pc1 := P1.out.cell 0
    simp only [List.getElem?_toArray, List.getElem?_cons_zero] at mc pc pc1
    have REF := Lib.hid (fun (W' : World) (h : Below w.heap.size w W') => ref_any x.1 W' (by omega) (LA.out W' h).sha)
    have MI1 := Lib.hid hmi1
    have HPK := Lib.hid hpk
    have HPF := Lib.hid hpf
    have HFEW := Lib.hid hfew
    have HOFF := Lib.hid hoff
    have HZ := Lib.hid hz
    have HLEN := Lib.hid hlen
    generalize hc : cntB (picks T (bareX pre)).1 x.1 = c at *
    have hcl : c ≤ 1001 := by have := MANY.out; omega
    have wk : IntKind.i64.wrap ((c : Int) + 1) = (c : Int) + 1 := IntWalk.i64_in _ (by omega)
    have e2 : (((c + 1 : Nat)) : Int) = (c : Int) + 1 := by push_cast; rfl
    rw [e2] at hlook1
    clear hpk hpf hfew hoff hz hlen hmi hmi1 hps hseen hstep e2 hgr1 hrow hM hP hMm hPm hrb
    by_cases h0 : c = 0
    · have e3 : ((c : Int) + 1 == 1) = true := by subst h0; rfl
      have NS := Lib.hid (HZ.out.1 h0)
      clear h0 hc
      by_cases hr : refB x.1 = x.1
      · have be : ((refB x.1).toList == x.1.toList) = true := by rw [bytes_eqC]; exact decide_eq_true hr
        have be2 : ((refB x.1).toList != x.1.toList) = false := by rw [bne, be]; rfl
        have OFF : Hid (offB (picks T (bareX pre)).1 x.1 = true) := Lib.hid (HOFF.out.2 (.inr hr))
        clear hr
        generalize refB x.1 = R at *
        gi_wp2_with (first | (refine ⟨trivial, ?_⟩; refine (CallsIn.inRound l (callsIn_wide.2 (REF.out _ B1.out))).mono ?_; rintro e W2 ⟨rfl, hb2⟩; have HB2 := Lib.hid hb2; clear hb2))
        refine ⟨KF1.out.trans ((keeps_below HB2.out).from _), K1.out.trans (Kt.of_below HB2.out GW1.out), ⟨⟨_, M1.out.below HB2.out, ?_⟩, ?_, P1.out.below HB2.out⟩, B1.out.trans (HB2.out.mono B1.out.size)⟩
        · rw [HPK.out, if_pos OFF.out]; exact own_below R1.out HB2.out
        · rw [HPF.out]
          have := MI1.out.below HB2.out
          rwa [List.length_append]
      · have be : ((refB x.1).toList == x.1.toList) = false := by rw [bytes_eqC]; exact decide_eq_false hr
        have be2 : ((refB x.1).toList != x.1.toList) = true := by rw [bne, be]; rfl
        have OFF : Hid (¬ offB (picks T (bareX pre)).1 x.1 = true) := Lib.hid (fun h => by
          rcases HOFF.out.1 h with h | h
          · exact NS.out h
          · exact hr h)
        clear hr
        generalize refB x.1 = R at *
        generalize (picks T (bareX pre)).2 = out at *
        have OM : Hid (∀ y ∈ [Value.string x.1], y.oneCell' = true) := Lib.hid (by simp [Value.oneCell'])
        gi_wp2_with (first
          | (refine ⟨trivial, ?_⟩; refine (CallsIn.inRound l (callsIn_wide.2 (REF.out _ B1.out))).mono ?_; rintro e W2 ⟨rfl, hb2⟩; have HB2 := Lib.hid hb2; have GW2 : Hid (g + 1 ≤ (W2.alloc (.cells #[.string x.1] 9)).heap.size) := Lib.hid (by rw [World.size_alloc]; have := GW1.out; have := hb2.size; omega); have M2 := Lib.hid (M1.out.below hb2); have R2 := Lib.hid (own_below R1.out hb2); have mc2 := M2.out.cell 0; simp only [List.getElem?_toArray, List.getElem?_cons_zero] at mc2; clear hb2)
          | (gi_at_builtin; refine wpListIn_append_strs rfl (some 44) rfl (.tmp 41) (.tmp 43) rfl rfl (g + 1) _ _ out [x.1] rfl rfl (World.ownsRow.alloc R2.out _) (Sl.one W2 x.1) (by have := HFEW.out; have := HLEN.out; have := MANY.out; simp; omega) GW2.out ?_; intro v3 wb hown hgr; obtain ⟨A3, c3, hv3⟩ := own_shape hown; subst hv3; have OE := Lib.hid hown; have GR := Lib.hid hgr; have MB := Lib.hid ((M2.out.alloc (.cells #[.string x.1] 9)).grown hgr (fun e => MR.out _ e rfl)); have mb := MB.out.cell 0; have fb := MB.out.frozen 0; simp only [List.getElem?_toArray, List.getElem?_cons_zero] at mb; clear hown hgr))
        have al := (Below.refl W2.heap.size W2).alloc (Nat.le_refl _) (.cells #[.string x.1] 9)
        have OA := World.ownsRow.alloc R2.out (.cells #[.string x.1] 9)
        have gA : g ≤ (W2.alloc (.cells #[.string x.1] 9)).heap.size := by have := GW2.out; omega
        have KA := (K1.out.trans (Kt.of_below HB2.out GW1.out)).trans (Kt.of_below al (Nat.le_trans GW1.out HB2.out.size))
        have KB := KA.trans (Kt.row OA tree_ne_str GR.out (Nat.le_succ g) gA)
        have KC := KB.trans (Kt.cell MB.out tree_ne_strs (by omega) 0 (.slice A3 (out.length + 1) c3))
        have KE := ((KF1.out.trans ((keeps_below HB2.out).from _)).trans ((keeps_below al).from _)).trans ((KeepsOthers.of_grownBy GR.out (own_cells OA)).from _)
        have FG : Far (fun i => (Value.slice A6 out.length c6).ownBlock = some i) (W2.alloc (.cells #[.string x.1] 9)) wb := (Far.refl _ _).grown GR.out (fun i _ e => e)
        refine ⟨KE.trans ((KeepsOthers.setCell _ _ _).from _), KC, ⟨⟨_, MB.out.set 0 (.slice A3 (out.length + 1) c3), ?_⟩, ?_, ?_⟩, hB.trans (KC.1.mono NW.out)⟩
        · have hl1 : (out ++ [x.1]).length = out.length + 1 := by simp
          have OE2 := OE.out
          rw [hl1] at OE2
          rw [HPK.out, if_neg OFF.out, hl1]
          exact own_far OE2 ((Far.refl (fun i => i = g + 1 + 1) wb).setCell (p := ⟨g + 1 + 1, 0, none⟩) (fun _ => rfl) (.slice A3 (out.length + 1) c3)) (fun i hi e => by
            have e2 : i = g + 1 + 1 := e
            subst e2
            rcases OE2.2 with ⟨h1, _⟩ | ⟨g', cap, cur, h1, _, hg', _⟩
            · rw [h1] at hi; cases hi
            · rw [h1] at hi
              have e3 : g' = g + 1 + 1 := Option.some.inj hi
              subst e3
              have := show wb.heap[g + 1 + 1]? = _ from MB.out
              rw [hg'] at this
              simp only [Option.some.injEq, Obj.cells.injEq] at this
              exact absurd this.2.1 (by decide))
        · rw [HPF.out]
          have h1 := ((MI1.out.below HB2.out).below al).far FG (fun e => MROW.out m e rfl)
          have h2 := h1.far ((Far.refl (fun i => i = g + 1 + 1) wb).setCell (p := ⟨g + 1 + 1, 0, none⟩) (fun _ => rfl) (.slice A3 (out.length + 1) c3)) (fun e => MN.out e.symm)
          rwa [List.length_append]
        · exact (((P1.out.below HB2.out).below al).far FG (fun e => PR.out p e rfl)).other (p := ⟨g + 1 + 1, 0, none⟩) (fun e => by have e2 : p = g + 1 + 1 := e; have := SZ5.out; have := MM.out; omega) _
    · have e3 : ((c : Int) + 1 == 1) = false := by simp; omega
      have OFF : Hid (offB (picks T (bareX pre)).1 x.1 = true) := Lib.hid (HOFF.out.2 (.inl (Classical.byContradiction (fun h => h0 (HZ.out.2 h)))))
      clear h0 hc
      gi_wp2_with fail
      refine ⟨trivial, ?_⟩
      gi_wp2_with fail
      refine ⟨KF1.out, K1.out, ⟨⟨_, M1.out, ?_⟩, ?_, P1.out⟩, B1.out⟩
      · rw [HPK.out, if_pos OFF.out]; exact R1.out
      · rw [HPF.out]
        have := MI1.out
        rwa [List.length_append]
  case done =>
    rintro D ys W hD hys ⟨⟨⟨v, hM, hrow⟩, hmi, hP⟩, hB⟩ hK
    rw [hys, HT.out] at hrow
    obtain ⟨A6, c6, hv6⟩ := own_shape hrow
    subst hv6
    have mc := hM.cell 0
    simp only [List.getElem?_toArray, List.getElem?_cons_zero] at mc
    have HR := Lib.hid hrow
    clear hrow hys
    gi_wp2
    refine ⟨by simp, .inl ⟨_, _, rfl, run_takeDeferred hK, ?_⟩⟩
    refine ⟨_, results_tmp2 rfl _ _ _, _, rfl, row_mono (ownsRow_putObj HR.out _ hK rfl) (by have := NW.out; omega), ?_⟩
    exact hB.trans (belowK_b (w := w) (Nat.le_refl _) W D _ _ (by have := SZ5.out; have := SZ6.out; have := SZ7.out; have := MM.out; have := NW.out; omega) hK rfl rfl)
  case stop =>
    rintro D c pre W hD hp hf hK
    exact hf.elim
end Go.Proofs.YtfeonjiiijdibaaGreatDoor
