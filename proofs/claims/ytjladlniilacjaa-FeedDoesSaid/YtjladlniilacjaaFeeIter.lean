/-
  Package feed: inOrder, as a function to range over.
-/
import Derived.Test.YtjladlniilacjaaFeeSt
import Derived.Test.YtjladlniilacjaaFeeLay
import Derived.RangeFuncNested
import Derived.RangeFuncBound
import Derived.RangeFuncCalls
import Derived.RangeFuncLeaves
import Derived.Shelf.Abstract
import Derived.Shelf.AbstractIn
import Derived.Shelf.RegionOpen
import Derived.WalkKit
import Derived.OwnWalkIn
import Derived.TacticsInMore
import Derived.LoopNIn
import Derived.LoopIn
namespace Go.Proofs.Ytjladlniilacjaa
open Go.RowKit Go.Shelf Go.Proofs.Fee
attribute [local go_sem] Oper.semAt_some
set_option linter.unusedVariables false
set_option linter.unusedSimpArgs false
theorem grown_belowF {w w' : World} (h : Below w.heap.size w w') : w.grownBy w' none := ⟨h.os, h.tape, h.output, h.size, fun k hk _ => h.block k hk⟩
/-- slices.Sort's two contracts, at ints. -/
theorem sortsF (m : Nat) : AnyZI.SortsIn Try.prog Try.feeSorted_ren Fence.wide m :=
  ⟨fun blk off cap ss W hH hblk hsz => callsIn_wide.2 (AnyM.slices_Sort_int Try.feeSort blk off cap ss W hH hblk hsz),
   fun p cap W => callsIn_wide.2 (AnyM.slices_Sort_int_none Try.feeSort p cap W)⟩
set_option maxHeartbeats 1000000 in
/-- slices.Sorted of what maps.Keys hands back: the keys, rising. -/
theorem sorted_keys (mp : Nat) (ks : Keyz Nat) (w : World) (h : Mk w mp ks) (hn : ks.length ≤ 100000) :
    CallsIn Fence.wide 5 Try.prog 73 #[.func (.func 84) #[] #[.pointer (some ⟨w.heap.size, 0, none⟩)]] (w.alloc (.cells #[.map (some mp)] 112)) fun e w' =>
      ∃ v, e = .returned v ∧ w'.ownsRow (w.heap.size + 1) 3 1 v ks.length ((ks.map Prod.fst).map (Value.int .i64)) ∧ Below (w.heap.size + 1) (w.alloc (.cells #[.map (some mp)] 112)) w' := by
  obtain ⟨D0, hown, hsz, hsort⟩ := h.sorted
  have hmax : Maps.size D0 ≤ maxLen := by rw [hsz]; simp [maxLen]; omega
  have hbytes : Maps.size D0 * 8 ≤ 140737488355328 := by rw [hsz]; omega
  have hbl := hown.lt
  have hseq : SeqGives Fence.wide 2 Try.prog 84 #[.pointer (some ⟨w.heap.size, 0, none⟩)] encZ (fun ss => ss.Perm (intKeys D0)) (Maps.size D0) (w.alloc (.cells #[.map (some mp)] 112)) :=
    AnyZI.keys_gives (ρ := Try.feeKeys_ren) { Try.feeKeys with } Fence.wide _ trivial rfl (by omega) w.heap.size mp ks.length D0 _ (by simp) (by simp) (hown.alloc _)
  have cS := AnyZI.sorted_in Try.feeSorted Fence.wide 5 trivial trivial trivial trivial rfl (by omega) (sortsF _) (enters_of Try.func83 (by kernel_rfl) rfl) 84 #[.pointer (some ⟨w.heap.size, 0, none⟩)] trivial (enters_of Try.func84 (by kernel_rfl) rfl) _ _ hmax hbytes _ hseq
  change CallsIn _ _ Try.prog 73 _ _ _ at cS
  refine cS.mono ?_
  rintro e w' ⟨v, ss, rfl, hss, hrow, _, hb⟩
  rw [World.size_alloc] at hrow hb
  have hl : ss.length = ks.length := by
    have h1 := hsort ss hss
    have h2 := congrArg List.length h1
    rw [(List.mergeSort_perm ss _).length_eq, List.length_map] at h2
    exact h2
  rw [hsort ss hss, hl] at hrow
  exact ⟨v, rfl, hrow, hb⟩
theorem keysF (mb : Option Nat) (W : World) : CallsIn Fence.wide 5 Try.prog 74 #[.map mb] W fun e w' => e = .returned (.func (.func 84) #[] #[.pointer (some ⟨W.heap.size, 0, none⟩)]) ∧ w' = W.alloc (.cells #[.map mb] 112) := AnyZI.keys_in Try.feeKeys Fence.wide 5 trivial rfl mb W
/-- The block of a slice that lies in a box. -/
def Lag (LB : Nat) (W : World) (k : Nat) : Prop := ∃ v, W.cell? ⟨LB, 0, none⟩ = some v ∧ v.ownBlock = some k
/-- What a round keeps. -/
structure Kf (Bn m mp LB : Nat) (W W' : World) : Prop where
  size : W.heap.size ≤ W'.heap.size
  bn : W'.heap[Bn]? = W.heap[Bn]?
  m : W'.heap[m]? = W.heap[m]?
  mp : W'.heap[mp]? = W.heap[mp]?
  int : ∀ k c, Blk W k 3 c → k ≠ LB → ¬ Lag LB W k → W'.heap[k]? = W.heap[k]?
  lag : ∀ k, Lag LB W' k → Lag LB W k ∨ W.heap.size ≤ k
theorem Kf.trans {Bn m mp LB : Nat} {X Y Z : World} (h : Kf Bn m mp LB X Y) (k : Kf Bn m mp LB Y Z) : Kf Bn m mp LB X Z where
  size := Nat.le_trans h.size k.size
  bn := k.bn.trans h.bn
  m := k.m.trans h.m
  mp := k.mp.trans h.mp
  int := fun j c hj h1 h2 => by
    have e := h.int j c hj h1 h2
    refine (k.int j c (e.trans hj) h1 (fun h3 => ?_)).trans e
    rcases h.lag j h3 with h4 | h4
    · exact h2 h4
    · have := hj.lt; omega
  lag := fun j hj => by
    rcases k.lag j hj with h1 | h1
    · exact h.lag j h1
    · have := h.size; exact .inr (by omega)
theorem kf_t {Bn m mp LB : Nat} {A B C : World} (h : Kf Bn m mp LB A B) (k : Kf Bn m mp LB B C) : Kf Bn m mp LB A C := h.trans k
/-- A turn of a block that is none of these. -/
theorem Kf.grown {Bn m mp LB : Nat} {W W' : World} {r : Option Nat} (k : W.grownBy W' r) (h1 : Bn < W.heap.size ∧ r ≠ some Bn) (h2 : m < W.heap.size ∧ r ≠ some m) (h3 : mp < W.heap.size ∧ r ≠ some mp) (h4 : LB < W.heap.size ∧ r ≠ some LB) (h5 : ∀ j c, Blk W j 3 c → r = some j → j = LB ∨ Lag LB W j) : Kf Bn m mp LB W W' where
  size := k.size
  bn := k.block _ h1.1 (fun e => h1.2 e.symm)
  m := k.block _ h2.1 (fun e => h2.2 e.symm)
  mp := k.block _ h3.1 (fun e => h3.2 e.symm)
  int := fun j c hj hne hl => k.block j hj.lt (fun e => by
    rcases h5 j c hj e.symm with h | h
    · exact hne h
    · exact hl h)
  lag := fun j ⟨v, hv, hb⟩ => .inl ⟨v, by rw [← hv]; exact (World.cell?_of_block (k.block LB h4.1 (fun e => h4.2 e.symm))).symm, hb⟩
theorem kf_b {Bn m mp LB : Nat} {w : World} (h1 : Bn < w.heap.size) (h2 : m < w.heap.size) (h3 : mp < w.heap.size) (h4 : LB < w.heap.size) (W : World) (l : Nat) (o o' : Obj) (hl : w.heap.size ≤ l) (h : W.heap[l]? = some o) (hc : o.isCells = false) (hw : o.isWalk = false) : Kf Bn m mp LB W (W.putObj l o') := by
  have hlt := (Array.getElem?_eq_some_iff.1 h).1
  refine Kf.grown (grownBy_putObj' W l o') ⟨by omega, by simp; omega⟩ ⟨by omega, by simp; omega⟩ ⟨by omega, by simp; omega⟩ ⟨by omega, by simp; omega⟩ ?_
  intro j c hj e
  cases e
  have := h.symm.trans hj
  injection this with this
  subst this
  cases hc
/-- A slice of ints, in a block that no round turns. -/
def Ir (LB : Nat) (w : World) (A : Option Addr) (xs : List Int) : Prop := xs = [] ∨ ∃ g cur, A = some ⟨g, 0, none⟩ ∧ Blk w g 3 cur ∧ (∀ (j : Nat) s, xs[j]? = some s → cur[j]? = some (.int .i64 s)) ∧ g ≠ LB ∧ ¬ Lag LB w g
theorem Ir.keep {Bn m mp LB : Nat} {W W' : World} {A : Option Addr} {xs : List Int} (h : Ir LB W A xs) (k : Kf Bn m mp LB W W') : Ir LB W' A xs := by
  rcases h with h | ⟨g, cur, h1, h2, h3, h4, h5⟩
  · exact .inl h
  · refine .inr ⟨g, cur, h1, (k.int g cur h2 h4 h5).trans h2, h3, h4, fun e => ?_⟩
    rcases k.lag g e with e | e
    · exact h5 e
    · have := h2.lt; omega
theorem ir_of {LB lo : Nat} {w : World} {v : Value} {xs : List Int} (h : w.ownsRow lo 3 1 v xs.length (xs.map (Value.int .i64))) (h1 : LB < lo) (h2 : ∀ k, Lag LB w k → k < lo) : ∃ A c, v = .slice A xs.length c ∧ xs.length ≤ c ∧ Ir LB w A xs := by
  rcases h.2 with ⟨rfl, h3⟩ | ⟨g, cap, cur, rfl, hb, hg, hle, hcap, hs, ht⟩
  · have : xs = [] := List.length_eq_zero_iff.1 h3
    subst this
    exact ⟨none, 0, rfl, Nat.le_refl _, .inl rfl⟩
  · refine ⟨_, cap, rfl, hle, .inr ⟨g, cur, rfl, hg, fun j s hj => ?_, by omega, fun e => by have := h2 g e; omega⟩⟩
    have hlt := (List.getElem?_eq_some_iff.1 hj).1
    have e : (List.take (xs.length * 1) cur.toList)[j]? = (xs.map (Value.int .i64))[j]? := by rw [ht]
    rw [List.getElem?_take_of_lt (by omega), List.getElem?_map, hj] at e
    simpa using e
theorem lag_below {LB : Nat} {w w' : World} (h : LB < w.heap.size) (k : Below w.heap.size w w') (j : Nat) (hj : Lag LB w' j) : Lag LB w j := by
  obtain ⟨v, hv, hb⟩ := hj
  exact ⟨v, by rw [← hv]; exact (k.cell (p := ⟨LB, 0, none⟩) h).symm, hb⟩
/-- A row of a feed. -/
abbrev RowOf (ks : Keyz Nat) := { x : Int × Nat // x ∈ ks }
def bareF {ks : Keyz Nat} (l : List (RowOf ks)) : Keyz Nat := l.map (·.1)
theorem bareF_snoc {ks : Keyz Nat} (l : List (RowOf ks)) (x : RowOf ks) : bareF (l ++ [x]) = bareF l ++ [x.1] := by simp [bareF]
def encF {ks : Keyz Nat} (x : RowOf ks) : Array Value := #[.int .i64 x.1.1, .pointer (some ⟨x.1.2, 0, none⟩)]
set_option maxRecDepth 100000 in
set_option maxHeartbeats 2000000 in
/-- What inOrder's function does, for every round that keeps its word. -/
theorem order1_in (l Bn m mp LB : Nat) (ks : Keyz Nat) (rm : Value) (hn : ks.length ≤ 100000) (J Jx : List (RowOf ks) → World → Prop) (W : World)
    (hJ : AbidesFrom W.heap.size J)
    (hY : ∀ pre x W1, J pre W1 → pre.length < ks.length → YieldAt Fence.wide 5 Try.prog l (encF x) W1 fun e W' =>
      (e = .returned (.bool true) ∧ J (pre ++ [x]) W' ∧ Kf Bn m mp LB W1 W') ∨ (e = .returned (.bool false) ∧ Jx (pre ++ [x]) W'))
    (hBn : Blk W Bn 53 #[.pointer (some ⟨m, 0, none⟩)]) (hm : Blk W m 114 #[rm, .map (some mp)]) (hmp : Mk W mp ks) (hlb : LB < W.heap.size) (hlag : ∀ k, Lag LB W k → k < W.heap.size) (h0 : J [] W) :
    CallsIn Fence.wide 6 Try.prog 72 #[.func (.yield l) #[] #[], .pointer (some ⟨Bn, 0, none⟩)] W fun e W' => (∃ v, e = .returned v) ∧
      ((∃ ys, bareF ys = ks ∧ J ys W') ∨ (∃ pre, bareF pre <+: ks ∧ Jx pre W')) := by
  refine callsIn_of_wp Try.func72 rfl trivial ?_ rfl
  simp only [Try.ntmps72, List.size_toArray, List.length_cons, List.length_nil, Nat.reduceAdd, Nat.reduceSub, Array.replicate_succ, Array.replicate_zero, List.push_toArray, List.append_toArray, List.nil_append, List.cons_append]
  have c0 : W.cell? ⟨Bn, 0, none⟩ = some (.pointer (some ⟨m, 0, none⟩)) := by rw [hBn.cell]; rfl
  have c1 : W.cell? ⟨m, 1, none⟩ = some (.map (some mp)) := by rw [hm.cell]; rfl
  have cS := sorted_keys mp ks W hmp hn
  have hfK : Fence.wide.fn 74 := trivial
  have hfS : Fence.wide.fn 73 := trivial
  have HBN := Lib.hid hBn
  have HM := Lib.hid hm
  have HMP := Lib.hid hmp
  have HLB := Lib.hid hlb
  have HLAG := Lib.hid hlag
  have HJ := Lib.hid hJ
  have HY := Lib.hid hY
  have H0 := Lib.hid h0
  have CS := Lib.hid cS
  clear hBn hm hmp hlb hlag hJ hY h0 cS
  have KL : (ks.map Prod.fst).length = ks.length := List.length_map _
  have IR : Hid (∀ v (w1 : World), w1.ownsRow (W.heap.size + 1) 3 1 v ks.length ((ks.map Prod.fst).map (Value.int .i64)) → Below (W.heap.size + 1) (W.alloc (.cells #[.map (some mp)] 112)) w1 → ∃ A c, v = .slice A ks.length c ∧ ks.length ≤ c ∧ Ir LB w1 A (ks.map Prod.fst)) := Lib.hid (fun v w1 h1 h2 => by
    have h3 : Below W.heap.size W w1 := ((Below.refl _ W).alloc (Nat.le_refl _) _).trans (h2.mono (Nat.le_succ _))
    rw [← KL] at h1
    have := ir_of (LB := LB) h1 (by have := HLB.out; omega) (fun k hk => by have := HLAG.out k (lag_below HLB.out h3 k hk); omega)
    rw [KL] at this
    exact this)
  gi_wp2_with (first
    | (gi_at_call 74; refine (keysF _ _).mono ?_; rintro e w' ⟨rfl, rfl⟩)
    | (gi_at_call 73; refine CS.out.mono ?_; rintro e w1 ⟨v, rfl, hrow, hb⟩; obtain ⟨A, c, rfl, _, hS⟩ := IR.out v w1 hrow hb; have SS := Lib.hid hS; have B1 := Lib.hid (((Below.refl W.heap.size W).alloc (Nat.le_refl _) _).trans (hb.mono (Nat.le_succ _))); clear hrow hb hS))
  have J1 := Lib.hid (HJ.out _ _ _ none H0.out (grown_belowF B1.out) (fun r e => by cases e))
  have BN1 := Lib.hid (HBN.out.below B1.out)
  have M1 := Lib.hid (HM.out.below B1.out)
  have MP1 := Lib.hid (HMP.out.below B1.out)
  clear CS IR KL H0 HBN HM
  gi_loopw [4, 12] (fun _ p wr => ∃ (k : Nat) (pre : List (RowOf ks)), p = .int .i64 (k : Int) ∧ k ≤ ks.length ∧ Hid (bareF pre = ks.take k) ∧ Hid (J pre wr) ∧ Hid (Blk wr Bn 53 #[.pointer (some ⟨m, 0, none⟩)]) ∧ Hid (Blk wr m 114 #[rm, .map (some mp)]) ∧ Hid (Mk wr mp ks) ∧ Hid (Ir LB wr A (ks.map Prod.fst))) (fun _ p _ => ks.length - (intOf p).toNat)
  case atStart => exact ⟨0, [], rfl, Nat.zero_le _, Lib.hid rfl, J1, BN1, M1, MP1, SS⟩
  case round =>
    obtain ⟨k, pre, rfl, hk, hp, hJs, hBN, hM, hMP, hS⟩ := hrel
    by_cases hlt : k < ks.length
    · obtain ⟨⟨s, b⟩, hsb⟩ : ∃ x, ks[k]? = some x := ⟨_, List.getElem?_eq_getElem hlt⟩
      have hmem : (s, b) ∈ ks := List.mem_of_getElem? hsb
      have hks : (ks.map Prod.fst)[k]? = some s := by rw [List.getElem?_map, hsb]; rfl
      obtain ⟨g, cur, rfl, hg, hcur, _, _⟩ := hS.out.resolve_left (fun e => by rw [e] at hks; cases hks)
      have cg : wr.cell? ⟨g, k, none⟩ = some (.int .i64 s) := by rw [hg.cell]; exact hcur k s hks
      have d0 : wr.cell? ⟨Bn, 0, none⟩ = some (.pointer (some ⟨m, 0, none⟩)) := by rw [hBN.out.cell]; rfl
      have d1 : wr.cell? ⟨m, 1, none⟩ = some (.map (some mp)) := by rw [hM.out.cell]; rfl
      have LK := hMP.out.look s (hMP.out.wf _ hmem)
      rw [atK_mem hMP.out.up.nodup hmem] at LK
      unfold ptrV at LK
      simp only at LK
      have hlen : pre.length < ks.length := by
        have h1 := congrArg List.length hp.out
        rw [bareF, List.length_map, List.length_take] at h1
        omega
      obtain ⟨xr, hxr⟩ : ∃ x : RowOf ks, x.1 = (s, b) := ⟨⟨(s, b), hmem⟩, rfl⟩
      obtain ⟨fn, tmps, assign, body, hy, hRR⟩ := HY.out pre xr wr hJs.out hlen
      have hy' : (Instr.yield l #[.int .i64 s, .pointer (some ⟨b, 0, none⟩)]).run Try.prog wr = .ok (.round l fn tmps assign body) wr := by
        unfold encF at hy; rw [hxr] at hy; exact hy
      have hbare : bareF (pre ++ [xr]) = ks.take (k + 1) := by rw [bareF_snoc, hp.out, hxr, List.take_add_one, hsb]; rfl
      have HRR := Lib.hid hRR
      have HBR := Lib.hid hbare
      have i1 : (k : Int) < (ks.length : Int) := by omega
      have i3 : (0 : Int) ≤ (k : Int) := by omega
      have wk : IntKind.i64.wrap ((k : Int) + 1) = (k : Int) + 1 := IntWalk.i64_in _ (by omega)
      have HK := Lib.hid hk
      have HLT := Lib.hid hlt
      clear hRR hy hlen hxr hbare hk hlt hsb hmem hks hcur hg
      gi_wp2_with fail
      refine HRR.out.mono ?_
      rintro e1 W3 (⟨rfl, hJ4, hk4⟩ | ⟨rfl, hJx4⟩)
      · have HJ4 := Lib.hid hJ4
        have HK4 := Lib.hid hk4
        clear hJ4 hk4
        gi_wp2_with fail
        go_roundw
        case rel => exact ⟨k + 1, pre ++ [xr], by go_num, by have := HLT.out; omega, HBR, HJ4, Lib.hid (HK4.out.bn.trans hBN.out), Lib.hid (HK4.out.m.trans hM.out), Lib.hid (hMP.out.same HK4.out.mp), Lib.hid (hS.out.keep HK4.out)⟩
        case measure => simp [intOf]; have := HLT.out; omega
      · have HJ4 := Lib.hid hJx4
        clear hJx4
        gi_wp2_with fail
        refine bodyPost_ret (results_none rfl _ _ _) rfl ?_
        refine ⟨⟨_, rfl⟩, .inr ⟨pre ++ [xr], ?_, HJ4.out⟩⟩
        rw [HBR.out]
        exact List.take_prefix _ _
    · obtain rfl : k = ks.length := by omega
      gi_wp2_with fail
      go_end0
      exact ⟨⟨_, rfl⟩, .inl ⟨pre, by rw [hp.out, List.take_length], hJs.out⟩⟩
/-- What inOrder hands back, for a loop over it. -/
theorem order_stops (Bn m mp LB : Nat) (ks : Keyz Nat) (rm : Value) (hn : ks.length ≤ 100000) (w : World) (hBn : Blk w Bn 53 #[.pointer (some ⟨m, 0, none⟩)]) (hm : Blk w m 114 #[rm, .map (some mp)]) (hmp : Mk w mp ks) (hlb : LB < w.heap.size) (hlag : ∀ k, Lag LB w k → k < w.heap.size) :
    SeqStopsK Fence.wide 6 Try.prog 72 #[.pointer (some ⟨Bn, 0, none⟩)] encF (Kf Bn m mp LB) (fun ys : List (RowOf ks) => bareF ys = ks) (fun pre => bareF pre <+: ks) ks.length w :=
  fun l J Jx W hW hJ _ hY h0 => order1_in l Bn m mp LB ks rm hn J Jx W hJ hY (hBn.below hW) (hm.below hW) (hmp.below hW) (by have := hW.size; omega) (fun k hk => by have := hlag k (lag_below hlb hW k hk); have := hW.size; omega) h0
/-- inOrder. -/
theorem order_any (m : Nat) (w : World) :
    Calls Try.prog 61 #[.pointer (some ⟨m, 0, none⟩)] w fun e w' => e = .returned (.func (.func 72) #[] #[.pointer (some ⟨w.heap.size, 0, none⟩)]) ∧ w' = w.alloc (.cells #[.pointer (some ⟨m, 0, none⟩)] 53) := by
  go_enter Try.func61, Try.ntmps61
  go_wp2_with fail
  go_ret
  exact ⟨rfl, rfl⟩
end Go.Proofs.Ytjladlniilacjaa
