import Derived.Test.YtgeonbkoihegnaaDoorRlpList
import Derived.RangeFuncNested
import Derived.RangeFuncBound
import Derived.RangeFuncCalls
import Derived.RangeFuncLeaves
import Derived.RangeFuncBox
import Derived.Shelf.Abstract
import Derived.Shelf.RegionOpen
import Derived.OwnWalkIn
import Derived.TacticsInMore
import Derived.LoopNIn
import Derived.LoopIn
import Derived.Maps.AppendAt
namespace Go.Proofs.Rlp
theorem first_bad {s : List UInt8} {e : Nat} (h : first s = .error e) : e ≤ s.length + 1 := by
  rcases s with _ | ⟨c, r⟩
  · simp [first] at h; omega
  · rw [first] at h
    by_cases h1 : c < 128
    · rw [if_pos h1] at h
      simp at h
    · rw [if_neg h1] at h
      by_cases h2 : c < 192
      · rw [if_pos h2] at h
        rcases hs : size (c :: r) (c.toNat - 128) with e' | ⟨f', n'⟩
        · simp only [hs, Except.error.injEq] at h
          subst h
          exact size_bad hs
        · simp only [hs] at h
          by_cases h4 : f' = 1 ∧ n' = 1 ∧ own (r.take 1) = true
          · rw [if_pos h4] at h
            simp only [Except.error.injEq] at h
            omega
          · rw [if_neg h4] at h
            simp at h
      · rw [if_neg h2] at h
        rcases hs : size (c :: r) (c.toNat - 192) with e' | ⟨f', n'⟩
        · simp only [hs, Except.error.injEq] at h
          subst h
          exact size_bad hs
        · simp [hs] at h
end Go.Proofs.Rlp
namespace Go.Proofs.YtgeonbkoihegnaaDoor
open Go.RowKit Go.Shelf
attribute [local go_sem] Oper.semAt_some
set_option linter.unusedVariables false
set_option linter.unusedSimpArgs false
/-- What each tells: an item; or where it is wrong. -/
abbrev Told := ByteArray × Option Nat
def toldErr : Option Nat → Value
  | none => .nilIface
  | some n => faultAt n
def toldEnc (x : Told) : Array Value := #[.string x.1, toldErr x.2]
/-- The items of s from k on. -/
def eachF (s : ByteArray) : Nat → Nat → List Told
  | 0, _ => []
  | m + 1, k =>
    if k < s.size then
      match Rlp.first (s.extract k s.size).data.toList with
      | .error e => [(ByteArray.empty, some (k + e))]
      | .ok (_, f, n) => (s.extract k (k + (f + n)), none) :: eachF s m (k + (f + n))
    else []
theorem eachF_done (s : ByteArray) (m k : Nat) (h : ¬ k < s.size) : eachF s m k = [] := by
  cases m with
  | zero => rfl
  | succ m => rw [eachF, if_neg h]
theorem grown_of_below {w w' : World} (h : Below w.heap.size w w') : w.grownBy w' none := ⟨h.os, h.tape, h.output, h.size, fun k hk _ => h.block k hk⟩
set_option maxRecDepth 100000 in
set_option maxHeartbeats 1000000 in
/-- What each's function does, for every round that keeps its word. -/
theorem each1_in (n l Bn : Nat) (s : ByteArray) (hs : s.size ≤ 70368744177664) (xs : List Told) (hxs : xs = eachF s s.size 0) (hn : 1 ≤ n) (Kp : World → World → Prop) (hK1 : ∀ A B, Kp A B → B.heap[Bn]? = A.heap[Bn]?) (hK2 : ∀ A B, Kp A B → B.heap[2]? = A.heap[2]?) (J Jx : List Told → World → Prop) (W : World)
    (hJ : AbidesFrom W.heap.size J)
    (hY : ∀ pre x W1, J pre W1 → x.1.size ≤ s.size → pre.length < xs.length → YieldAt Fence.wide (n - 1) Tryd.prog l (toldEnc x) W1 fun e W' =>
      (e = .returned (.bool true) ∧ J (pre ++ [x]) W' ∧ Kp W1 W') ∨ (e = .returned (.bool false) ∧ Jx (pre ++ [x]) W'))
    (hBn : W.cell? ⟨Bn, 0, none⟩ = some (.string s)) (hL : Laid2 W) (h0 : J [] W) :
    CallsIn Fence.wide n Tryd.prog 39 #[.func (.yield l) #[] #[], .pointer (some ⟨Bn, 0, none⟩)] W fun e W' => (∃ v, e = .returned v) ∧
      ((∃ ys, ys = xs ∧ J ys W') ∨ (∃ pre, pre <+: xs ∧ Jx pre W')) := by
  refine callsIn_of_wp Tryd.func39 rfl trivial ?_ rfl
  simp only [Tryd.ntmps39, List.size_toArray, List.length_cons, List.length_nil, Nat.reduceAdd, Nat.reduceSub, Array.replicate_succ, Array.replicate_zero, List.push_toArray, List.append_toArray, List.nil_append, List.cons_append]
  have HS := Lib.hid hs
  have HX := Lib.hid hxs
  have HL := Lib.hid hL
  have HBn := Lib.hid hBn
  clear hxs hL hBn
  gi_wp2
  gi_loopw [3] (fun p wr => ∃ (k m : Nat) (pre : List Told), p = .int .i64 (k : Int) ∧ k ≤ s.size ∧ s.size ≤ k + m ∧ Hid (xs = pre ++ eachF s m k) ∧ Hid (wr.cell? ⟨Bn, 0, none⟩ = some (.string s)) ∧ Hid (Laid2 wr) ∧ Hid (J pre wr)) (fun p _ => s.size - (intOf p).toNat)
  case atStart => exact ⟨0, s.size, [], rfl, Nat.zero_le _, by omega, Lib.hid (by rw [HX.out]; rfl), HBn, HL, Lib.hid h0⟩
  case round =>
    obtain ⟨k, m, pre, rfl, hk, hm, hx, hc, hl2, hJs⟩ := hrel
    have hcell := hc.out
    by_cases hlt : k < s.size
    · have hR : (s.extract k s.size).size = s.size - k := by
        rw [← Nib.len_of, Lib.extract_data]
        simp
      have hz := first_any (s.extract k s.size) wr (by omega)
      have hEq : eachF s m k = match Rlp.first (s.extract k s.size).data.toList with
          | .error e => [(ByteArray.empty, some (k + e))]
          | .ok (_, f, n) => (s.extract k (k + (f + n)), none) :: eachF s (m - 1) (k + (f + n)) := by
        obtain ⟨m', rfl⟩ : ∃ m', m = m' + 1 := ⟨m - 1, by omega⟩
        rw [eachF, if_pos hlt]
        rfl
      have hjs := hJs.out
      have hcl := hc.out
      rcases hT : Rlp.first (s.extract k s.size).data.toList with e | ⟨li, f, n'⟩
      · have hbad := Rlp.first_bad hT
        rw [Nib.len_of, hR] at hbad
        simp only [hT, firstVal, faultAt] at hz
        simp only [hT] at hEq
        have HZ := Lib.hid hz
        have HE := Lib.hid hEq
        clear hz hEq hT hjs
        gi_wp2_with fail
        refine ⟨trivial, (callsIn_wide.2 HZ.out).mono ?_⟩
        rintro e1 w1 ⟨rfl, bw1⟩
        obtain ⟨w2, hw2⟩ : ∃ w2, w2 = w1.alloc (.cells #[.bool false, .string ByteArray.empty, .string ByteArray.empty] 50) := ⟨_, rfl⟩
        have bw2 : Below wr.heap.size wr w2 := by rw [hw2]; exact bw1.alloc bw1.size _
        have HW := Lib.hid (why_fault e 2 w2 (hl2.out.on bw2 (Nat.le_refl _)))
        have HW2 := Lib.hid hw2
        have HB2 := Lib.hid bw2
        clear hw2 bw2
        gi_wp2_with fail
        rw [← HW2.out]
        refine ⟨trivial, (callsIn_wide.2 HW.out).mono ?_⟩
        rintro e1 w3 ⟨rfl, bw3⟩
        have bw4 : Below wr.heap.size wr w3 := HB2.out.trans (bw3.mono HB2.out.size)
        have hJ3 : J pre w3 := hJ _ wr w3 none hJs.out (grown_of_below bw4) (fun r e => by cases e)
        have hlen : pre.length < xs.length := by rw [hx.out, HE.out]; simp
        obtain ⟨fn, tmps, assign, body, hy, hRR⟩ := hY pre (ByteArray.empty, some (k + e)) w3 hJ3 (Nat.zero_le _) hlen
        have hy' : (Instr.yield l #[.string ⟨#[]⟩, .iface 76 (.agg #[.int .i64 ((k : Int) + (e : Int)), .int .i64 2])]).run Tryd.prog w3 = .ok (.round l fn tmps assign body) w3 := hy
        have HRR := Lib.hid hRR
        clear hRR hy bw4 bw3 hJ3
        gi_wp2_with fail
        refine HRR.out.mono ?_
        rintro e1 W3 (⟨rfl, hJ4, hk4⟩ | ⟨rfl, hJx4⟩)
        · gi_wp2_with fail
          refine bodyPost_ret (results_none rfl _ _ _) rfl ?_
          exact ⟨⟨_, rfl⟩, .inl ⟨pre ++ [(ByteArray.empty, some (k + e))], by rw [hx.out, HE.out], hJ4⟩⟩
        · gi_wp2_with fail
          refine bodyPost_ret (results_none rfl _ _ _) rfl ?_
          exact ⟨⟨_, rfl⟩, .inr ⟨pre ++ [(ByteArray.empty, some (k + e))], by rw [hx.out, HE.out]; exact List.prefix_refl _, hJx4⟩⟩
      · have hok := Rlp.first_ok hT
        rw [Nib.len_of, hR] at hok
        obtain ⟨hok1, hok2⟩ := hok
        simp only [hT, firstVal] at hz
        simp only [hT] at hEq
        obtain ⟨X, hX⟩ : ∃ X, X = (s.extract k s.size).extract f (f + n') := ⟨_, rfl⟩
        obtain ⟨Y, hY0⟩ : ∃ Y, Y = (s.extract k s.size).extract (f + n') (s.extract k s.size).size := ⟨_, rfl⟩
        have hYs : Y.size = s.size - k - (f + n') := by
          rw [hY0, ← Nib.len_of, Lib.extract_data]
          simp
        rw [← hX, ← hY0] at hz
        obtain ⟨q, hq⟩ : ∃ q, q = k + (f + n') := ⟨_, rfl⟩
        rw [← hq] at hEq
        have hqs : q ≤ s.size := by omega
        have hqk : k < q := by omega
        have hqi : (s.size : Int) - (Y.size : Int) = (q : Int) := by rw [hYs]; omega
        have hsl : (Instr.slice 9 (.string s) (some (.int .i64 (k : Int))) (some (.int .i64 (q : Int))) none).run Tryd.prog = fun W => .ok (.string (s.extract k q)) W := by
          funext W
          rw [run_slice_string _ _ _ _ _ _ _ Tryd.underlying9 (by omega) (by omega) (by omega)]
          rfl
        have hsl2 : ∀ W, (Instr.slice 9 (.string s) (some (.int .i64 (k : Int))) (some (.int .i64 (q : Int))) none).run Tryd.prog W = .ok (.string (s.extract k q)) W := fun W => congrFun hsl W
        have HZ := Lib.hid hz
        have HE := Lib.hid hEq
        clear hz hEq hT hjs hX hY0 hYs hq hsl
        gi_wp2_with fail
        refine ⟨trivial, (callsIn_wide.2 HZ.out).mono ?_⟩
        rintro e1 w1 ⟨rfl, bw1⟩
        obtain ⟨w2, hw2⟩ : ∃ w2, w2 = w1.alloc (.cells #[.bool li, .string X, .string Y] 50) := ⟨_, rfl⟩
        have bw2 : Below wr.heap.size wr w2 := by rw [hw2]; exact bw1.alloc bw1.size _
        have hJ3 : J pre w2 := hJ _ wr w2 none hJs.out (grown_of_below bw2) (fun r e => by cases e)
        have hlen : pre.length < xs.length := by rw [hx.out, HE.out]; simp
        have hc2 : w2.cell? ⟨Bn, 0, none⟩ = some (.string s) := kept_cell (grown_of_below bw2) hc.out
        have hl3 : Laid2 w2 := hl2.out.on bw2 (Nat.le_refl _)
        obtain ⟨fn, tmps, assign, body, hy, hRR⟩ := hY pre (s.extract k q, none) w2 hJ3 (by rw [← Nib.len_of, Lib.extract_data]; simp; omega) hlen
        have hy' : (Instr.yield l #[.string (s.extract k q), .nilIface]).run Tryd.prog w2 = .ok (.round l fn tmps assign body) w2 := hy
        rw [hw2] at hy' hc2
        have HRR := Lib.hid hRR
        have HW2 := Lib.hid hw2
        have HC2 := Lib.hid hc2
        have HL3 := Lib.hid hl3
        clear hRR hy hJ3 hw2 hl3 bw2 bw1
        gi_wp2_with fail
        rw [← HW2.out]
        refine HRR.out.mono ?_
        rintro e1 W3 (⟨rfl, hJ4, hk4⟩ | ⟨rfl, hJx4⟩)
        · have hc3 : W3.cell? ⟨Bn, 0, none⟩ = some (.string s) := by
            rw [World.cell?_of_block (hK1 _ _ hk4), HW2.out]
            exact HC2.out
          have hl4 : Laid2 W3 := by
            unfold Laid2
            rw [World.cell?_of_block (hK2 _ _ hk4)]
            exact HL3.out
          gi_wp2_with fail
          go_roundw
          case rel => exact ⟨q, m - 1, pre ++ [(s.extract k q, none)], rfl, hqs, by omega, Lib.hid (by rw [hx.out, HE.out]; simp), Lib.hid hc3, Lib.hid hl4, Lib.hid hJ4⟩
          case measure => simp [intOf]; omega
        · gi_wp2_with fail
          refine bodyPost_ret (results_none rfl _ _ _) rfl ?_
          exact ⟨⟨_, rfl⟩, .inr ⟨pre ++ [(s.extract k q, none)], by rw [hx.out, HE.out]; exact ⟨eachF s (m - 1) q, by simp⟩, hJx4⟩⟩
    · have hd := eachF_done s m k hlt
      gi_wp2_with fail
      go_end0
      exact ⟨⟨_, rfl⟩, .inl ⟨pre, by rw [hx.out, hd, List.append_nil], hJs.out⟩⟩
/-- Blocks below N, and block b, lie as they lay. -/
def Kb (N b : Nat) (A B : World) : Prop := Below N A B ∧ B.heap[b]? = A.heap[b]?
theorem Kb.trans {N b : Nat} {A B C : World} (h : Kb N b A B) (k : Kb N b B C) : Kb N b A C := ⟨h.1.trans k.1, k.2.trans h.2⟩
theorem kb_t {N b : Nat} {A B C : World} (h : Kb N b A B) (k : Kb N b B C) : Kb N b A C := h.trans k
theorem kb_b {N b : Nat} {w : World} (hN : N ≤ w.heap.size) (hb : b < w.heap.size) (W : World) (l : Nat) (o o' : Obj) (hl : w.heap.size ≤ l) (h : W.heap[l]? = some o) (h1 : o.isCells = false) (h2 : o.isWalk = false) : Kb N b W (W.putObj l o') :=
  ⟨belowK_b hN W l o o' hl h h1 h2, World.putObj_heap_other (by omega)⟩
/-- What each hands back, for a loop over it. -/
theorem each_stops (n b N : Nat) (s : ByteArray) (hs : s.size ≤ 70368744177664) (hn : 1 ≤ n) (hN : 2 < N) (w : World) (hb : b < w.heap.size) (hNw : N ≤ w.heap.size) (hc : w.cell? ⟨b, 0, none⟩ = some (.string s)) (hL : Laid2 w) :
    SeqStopsK Fence.wide n Tryd.prog 39 #[.pointer (some ⟨b, 0, none⟩)] toldEnc (Kb N b) (fun ys => ys = eachF s s.size 0) (fun pre => pre <+: eachF s s.size 0) (eachF s s.size 0).length w :=
  fun l J Jx W hW hJ _ hY h0 => each1_in n l b s hs _ rfl hn (Kb N b) (fun _ _ h => h.2) (fun _ _ h => h.1.block 2 hN) J Jx W hJ (fun pre x W1 h1 _ h2 => hY pre x W1 h1 h2) ((hW.cell (p := ⟨b, 0, none⟩) hb).trans hc) (hL.on hW (Nat.le_refl _)) h0
/-- What is told of a text of at most M bytes. -/
abbrev ToldIn (M : Nat) := { x : Told // x.1.size ≤ M }
def bare {M : Nat} (l : List (ToldIn M)) : List Told := l.map (·.1)
theorem bare_snoc {M : Nat} (l : List (ToldIn M)) (x : ToldIn M) : bare (l ++ [x]) = bare l ++ [x.1] := by simp [bare]
/-- The same, where a round may know that what it is told is no longer than M. -/
theorem each_stops_in (M n b N : Nat) (s : ByteArray) (hM : s.size ≤ M) (hs : s.size ≤ 70368744177664) (hn : 1 ≤ n) (hN : 2 < N) (w : World) (hb : b < w.heap.size) (hNw : N ≤ w.heap.size) (hc : w.cell? ⟨b, 0, none⟩ = some (.string s)) (hL : Laid2 w) :
    SeqStopsK Fence.wide n Tryd.prog 39 #[.pointer (some ⟨b, 0, none⟩)] (fun x : ToldIn M => toldEnc x.1) (Kb N b) (fun ys => bare ys = eachF s s.size 0) (fun pre => bare pre <+: eachF s s.size 0) (eachF s s.size 0).length w := by
  intro l J Jx W hW hJ hJx hY h0
  have key := each1_in n l b s hs _ rfl hn (Kb N b) (fun _ _ h => h.2) (fun _ _ h => h.1.block 2 hN) (fun p W => ∃ p' : List (ToldIn M), bare p' = p ∧ J p' W) (fun p W => ∃ p' : List (ToldIn M), bare p' = p ∧ Jx p' W) W
    (fun p A B row ⟨p', hp, hj⟩ hg hr => ⟨p', hp, hJ p' A B row hj hg hr⟩)
    (fun pre x W1 ⟨p', hp, hj⟩ hx hl => by
      have hl' : p'.length < (eachF s s.size 0).length := by rw [← hp, bare, List.length_map] at hl; exact hl
      refine (hY p' ⟨x, Nat.le_trans hx hM⟩ W1 hj hl').mono ?_
      rintro e W2 (⟨he, h1, h2⟩ | ⟨he, h1⟩)
      · exact .inl ⟨he, ⟨_, by rw [bare_snoc, hp], h1⟩, h2⟩
      · exact .inr ⟨he, ⟨_, by rw [bare_snoc, hp], h1⟩⟩)
    ((hW.cell (p := ⟨b, 0, none⟩) hb).trans hc) (hL.on hW (Nat.le_refl _)) ⟨[], rfl, h0⟩
  refine key.mono ?_
  rintro e W2 ⟨hv, ⟨ys, hys, p', hp, hj⟩ | ⟨pre, hpre, p', hp, hj⟩⟩
  · exact ⟨hv, .inl ⟨p', hp.trans hys, hj⟩⟩
  · exact ⟨hv, .inr ⟨p', show bare p' <+: eachF s s.size 0 by rw [hp]; exact hpre, hj⟩⟩
/-- rlp.each. -/
theorem each_any (s : ByteArray) (w : World) :
    Calls Tryd.prog 30 #[.string s] w fun e w' => e = .returned (.func (.func 39) #[] #[.pointer (some ⟨w.heap.size, 0, none⟩)]) ∧ w' = w.alloc (.cells #[.string s] 9) := by
  go_enter Tryd.func30, Tryd.ntmps30
  go_wp2_with fail
  go_ret
  exact ⟨rfl, rfl⟩
end Go.Proofs.YtgeonbkoihegnaaDoor
