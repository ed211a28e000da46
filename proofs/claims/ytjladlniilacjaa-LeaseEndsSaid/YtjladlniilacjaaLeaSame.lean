/-
  The law's package for lease: are two rows of sessions the same; operations on such rows, one by one.
-/
import Derived.Test.YtjladlniilacjaaLeaRow
import Derived.Test.YtjladlniilacjaaWalkP
import Derived.Test.YtjladlniilacjaaLeaNum
import Derived.Deep.RegionHeld3
namespace Go.Proofs.Ytjladlniilacjaa
open Go.RowKit Go.Proofs.Lea
set_option linter.unusedVariables false
set_option linter.unusedSimpArgs false
theorem run_indexSes {o : Oper} {a : Act} {W : World} {x y : Operand} (ho : o.op = .indexAddr 30 x y) (b off n c i : Nat) (hx : a.eval x = .slice (some ⟨b, off, none⟩) n c) (hy : a.eval y = .int .i64 (i : Int)) (hi : i < n) :
    (execOp a.eval o).run Try.prog W = .ok (.value (.pointer (some ⟨b, off + i * 4, none⟩))) W := by
  have hu : Try.prog.underlying 30 = some (.slice 29) := by kernel_rfl
  have hc : Try.prog.cellsOf 29 = 4 := by kernel_rfl
  have h1 : (i : Int) < (n : Int) := by omega
  unfold execOp
  simp only [ho, hx, hy]
  simp [go_sem, hu, hc, h1, hi, Addr.add]
/-- The cells of a session. -/
def sesC (s : Ses) : Array Value := #[.int .i64 s.id, .int .i64 s.block, .int .i64 s.dead, .int .i64 s.last]
theorem sesC_inj {x y : Ses} (h : x.id = y.id ∧ x.block = y.block ∧ x.dead = y.dead ∧ x.last = y.last) : x = y := by
  obtain ⟨a, b, c, d⟩ := x
  obtain ⟨a', b', c', d'⟩ := y
  obtain ⟨h1, h2, h3, h4⟩ := h
  simp only at h1 h2 h3 h4
  subst h1; subst h2; subst h3; subst h4; rfl
theorem run_neSes {o : Oper} {a : Act} {W : World} {x y : Operand} (ho : o.op = .binOp .neq 29 x y 29) (s s' : Ses) (hx : a.eval x = .agg (sesC s)) (hy : a.eval y = .agg (sesC s')) (b : Bool) (h : decide (¬ s = s') = b) :
    (execOp a.eval o).run Try.prog W = .ok (.value (.bool b)) W := by
  subst h
  have hu : Try.prog.underlying 3 = some (.int .i64) := by kernel_rfl
  unfold execOp
  simp only [ho, hx, hy]
  unfold sesC
  simp [go_sem]
  by_cases e : s = s'
  · subst e; simp
  · have hne : ¬ (s.id = s'.id ∧ s.block = s'.block ∧ s.dead = s'.dead ∧ s.last = s'.last) := fun h => e (sesC_inj h)
    by_cases e1 : s.id = s'.id
    · by_cases e2 : s.block = s'.block
      · by_cases e3 : s.dead = s'.dead
        · by_cases e4 : s.last = s'.last
          · exact absurd ⟨e1, e2, e3, e4⟩ hne
          · simp [e1, e2, e3, e4, e]
        · simp [e1, e2, e3, e]
      · simp [e1, e2, e]
    · simp [e1, e]
theorem run_ses {o : Oper} {a : Act} {W : World} (x : Operand) (ho : o.op = .load 29 x) (b off : Nat) (hx : a.eval x = .pointer (some ⟨b, off, none⟩)) (s : Ses) (h : SesAt W b off s) : (execOp a.eval o).run Try.prog W = .ok (.value (.agg (sesC s))) W := by
  have hu : ∃ d, Try.prog.underlying 29 = some d ∧ d.isRow = true := ⟨_, Try.underlying29, rfl⟩
  obtain ⟨d, hu, hd⟩ := hu
  refine Segs.run_mid (ty := 29) (x := x) ho b off hx [.int .i64 s.id, .int .i64 s.block, .int .i64 s.dead, .int .i64 s.last] d ?_ hu hd (by kernel_rfl)
  intro j v hj
  rcases j with _ | _ | _ | _ | j
  · cases hj; exact h.c0
  · cases hj; exact h.c1
  · cases hj; exact h.c2
  · cases hj; exact h.c3
  · simp at hj
theorem SesAt.below {w w' : World} {b o : Nat} {s : Ses} (h : SesAt w b o s) (hb : b < w.heap.size) (k : Below w.heap.size w w') : SesAt w' b o s :=
  ⟨(k.cell (p := ⟨b, _, none⟩) hb).trans h.c0, (k.cell (p := ⟨b, _, none⟩) hb).trans h.c1, (k.cell (p := ⟨b, _, none⟩) hb).trans h.c2, (k.cell (p := ⟨b, _, none⟩) hb).trans h.c3⟩
/-- A row of sessions that lies in memory. -/
def Rs (w : World) (A : Option Addr) (l : List Ses) : Prop := l = [] ∨ ∃ b o, A = some ⟨b, o, none⟩ ∧ b < w.heap.size ∧ ∀ j s, l[j]? = some s → SesAt w b (o + j * 4) s
theorem Rs.below {w w' : World} {A : Option Addr} {l : List Ses} (h : Rs w A l) (k : Below w.heap.size w w') : Rs w' A l := by
  rcases h with h | ⟨b, o, rfl, hb, hc⟩
  · exact .inl h
  · exact .inr ⟨b, o, rfl, Nat.lt_of_lt_of_le hb k.size, fun j s hs => (hc j s hs).below hb k⟩
theorem Rs.at_ {w : World} {A : Option Addr} {l : List Ses} (h : Rs w A l) (k : Nat) (s : Ses) (hk : l[k]? = some s) : ∃ b o, A = some ⟨b, o, none⟩ ∧ b < w.heap.size ∧ SesAt w b (o + k * 4) s := by
  rcases h with h | ⟨b, o, h1, h2, h3⟩
  · subst h; simp at hk
  · exact ⟨b, o, h1, h2, h3 k s hk⟩
theorem Rs.of_own {w : World} {base : Nat} {v : Value} {l : List Ses} (h : w.ownsRow base 29 4 v l.length (flatS l)) : ∃ A c, v = .slice A l.length c ∧ Rs w A l := by
  obtain ⟨A, c, rfl⟩ := own_sl h
  refine ⟨A, c, rfl, ?_⟩
  rcases l with _ | ⟨x, r⟩
  · exact .inl rfl
  · exact .inr (own_at h 0 x rfl)
set_option maxRecDepth 100000 in
set_option maxHeartbeats 4000000 in
theorem same_ses (w : World) (A1 A2 : Option Addr) (c1 c2 : Nat) (la lb : List Ses) (h1 : Rs w A1 la) (h2 : Rs w A2 lb) (hl : la.length ≤ 1000) :
    Calls Try.prog 20 #[.slice A1 la.length c1, .slice A2 lb.length c2] w fun e w' => e = .returned (.bool (decide (la = lb))) ∧ Below w.heap.size w w' := by
  have RA := Lib.hid h1
  have RB := Lib.hid h2
  clear h1 h2
  by_cases hlen : la.length = lb.length
  · go_enter Try.func20, Try.ntmps20
    have q0 : ((la.length : Int) != (lb.length : Int)) = false := by rw [hlen]; simp
    go_wp2_with fail
    go_loopw [5] (fun vi wr => ∃ k : Nat, vi = .int .i64 (k : Int) ∧ k ≤ la.length ∧ Hid (Below w.heap.size w wr) ∧ Hid (la.take k = lb.take k)) (fun vi _ => la.length - (intOf vi).toNat)
    case atStart => exact ⟨0, rfl, Nat.zero_le _, Lib.hid (Below.refl _ _), Lib.hid (by simp)⟩
    case round =>
      obtain ⟨k, rfl, hk, HB, HT⟩ := hrel
      by_cases hlt : k < la.length
      · obtain ⟨x, hx⟩ : ∃ x, la[k]? = some x := ⟨_, List.getElem?_eq_getElem hlt⟩
        obtain ⟨y, hy⟩ : ∃ y, lb[k]? = some y := ⟨_, List.getElem?_eq_getElem (by omega)⟩
        obtain ⟨b1, o1, rfl, hb1, hs1⟩ := (RA.out.below HB.out).at_ k x hx
        obtain ⟨b2, o2, rfl, hb2, hs2⟩ := (RB.out.below HB.out).at_ k y hy
        have SA : Hid (∀ W : World, Below wr.heap.size wr W → SesAt W b1 (o1 + k * 4) x) := Lib.hid (fun W hW => hs1.below hb1 hW)
        have SB : Hid (∀ W : World, Below wr.heap.size wr W → SesAt W b2 (o2 + k * 4) y) := Lib.hid (fun W hW => hs2.below hb2 hW)
        have IA := Lib.hid hlt
        have IB := Lib.hid (show k < lb.length by omega)
        have HX := Lib.hid hx
        have HY := Lib.hid hy
        have j1 : (k : Int) < (la.length : Int) := by omega
        have wk : IntKind.i64.wrap ((k : Int) + 1) = (k : Int) + 1 := IntWalk.i64_in _ (by omega)
        clear hs1 hs2 hx hy
        by_cases he : x = y
        · have QE := Lib.hid (show decide (¬ x = y) = false by simp [he])
          have HB0 := Lib.hid (Bl.start wr)
          go_upto_region 6 with (fail)
          refine Segs.wp_region_perm Segs.Hist [(0, false), (1, false), (2, false), (3, false), (4, false), (5, false), (6, false), (7, false), (8, false)] Segs.Hist.refl Segs.Hist.trans (by kernel_rfl) (by kernel_rfl) rfl (by kernel_rfl) (Segs.WP.out ?_)
          have B2 := Lib.hid HB0.out.drew
          generalize wr.drew = W1 at B2 ⊢
          refine Segs.WP.val 0 rfl (some 17) (.slice (some ⟨b1, o1, none⟩) la.length c1) rfl (by kernel_rfl) (fun WW h => by kernel_rfl) ?_
          simp only [Act.put, List.setIfInBounds_toArray, List.set_cons_zero, List.set_cons_succ]
          refine Segs.WP.val 1 rfl (some 18) (.int .i64 ((k : Int))) rfl (by kernel_rfl) (fun WW h => by kernel_rfl) ?_
          simp only [Act.put, List.setIfInBounds_toArray, List.set_cons_zero, List.set_cons_succ]
          refine Segs.WP.val 2 rfl (some 19) (.pointer (some ⟨b1, (o1 + k * 4), none⟩)) rfl (by kernel_rfl) (fun WW h => run_indexSes rfl b1 o1 la.length c1 k (by kernel_rfl) (by kernel_rfl) IA.out) ?_
          simp only [Act.put, List.setIfInBounds_toArray, List.set_cons_zero, List.set_cons_succ]
          refine Segs.WP.val 3 rfl (some 20) (.agg (sesC x)) rfl (by kernel_rfl) (fun WW h => run_ses (.tmp 19) rfl b1 (o1 + k * 4) (by kernel_rfl) _ (SA.out _ (B2.out.call h).1)) ?_
          simp only [Act.put, List.setIfInBounds_toArray, List.set_cons_zero, List.set_cons_succ]
          refine Segs.WP.val 4 rfl (some 21) (.slice (some ⟨b2, o2, none⟩) lb.length c2) rfl (by kernel_rfl) (fun WW h => by kernel_rfl) ?_
          simp only [Act.put, List.setIfInBounds_toArray, List.set_cons_zero, List.set_cons_succ]
          refine Segs.WP.val 5 rfl (some 22) (.int .i64 ((k : Int))) rfl (by kernel_rfl) (fun WW h => by kernel_rfl) ?_
          simp only [Act.put, List.setIfInBounds_toArray, List.set_cons_zero, List.set_cons_succ]
          refine Segs.WP.val 6 rfl (some 23) (.pointer (some ⟨b2, (o2 + k * 4), none⟩)) rfl (by kernel_rfl) (fun WW h => run_indexSes rfl b2 o2 lb.length c2 k (by kernel_rfl) (by kernel_rfl) IB.out) ?_
          simp only [Act.put, List.setIfInBounds_toArray, List.set_cons_zero, List.set_cons_succ]
          refine Segs.WP.val 7 rfl (some 24) (.agg (sesC y)) rfl (by kernel_rfl) (fun WW h => run_ses (.tmp 23) rfl b2 (o2 + k * 4) (by kernel_rfl) _ (SB.out _ (B2.out.call h).1)) ?_
          simp only [Act.put, List.setIfInBounds_toArray, List.set_cons_zero, List.set_cons_succ]
          refine Segs.WP.val 8 rfl (some 25) (.bool false) rfl (by kernel_rfl) (fun WW h => run_neSes rfl x y (by kernel_rfl) (by kernel_rfl) false QE.out) ?_
          simp only [Act.put, List.setIfInBounds_toArray, List.set_cons_zero, List.set_cons_succ]
          refine Segs.WP.fin (fun W3 hx => ?_)
          have B4 := Lib.hid (B2.out.call hx)
          clear hx
          go_wp2_with fail
          refine ⟨⟨k + 1, by go_num, by omega, Lib.hid (HB.out.trans ((far_of_below B4.out.1).below HB.out.size (fun _ e => e.elim))), Lib.hid ?_⟩, by simp [intOf]; omega⟩
          rw [List.take_add_one, List.take_add_one, HT.out, HX.out, HY.out, he]
        · have QE := Lib.hid (show decide (¬ x = y) = true by simp [he])
          have HB0 := Lib.hid (Bl.start wr)
          go_upto_region 6 with (fail)
          refine Segs.wp_region_perm Segs.Hist [(0, false), (1, false), (2, false), (3, false), (4, false), (5, false), (6, false), (7, false), (8, false)] Segs.Hist.refl Segs.Hist.trans (by kernel_rfl) (by kernel_rfl) rfl (by kernel_rfl) (Segs.WP.out ?_)
          have B2 := Lib.hid HB0.out.drew
          generalize wr.drew = W1 at B2 ⊢
          refine Segs.WP.val 0 rfl (some 17) (.slice (some ⟨b1, o1, none⟩) la.length c1) rfl (by kernel_rfl) (fun WW h => by kernel_rfl) ?_
          simp only [Act.put, List.setIfInBounds_toArray, List.set_cons_zero, List.set_cons_succ]
          refine Segs.WP.val 1 rfl (some 18) (.int .i64 ((k : Int))) rfl (by kernel_rfl) (fun WW h => by kernel_rfl) ?_
          simp only [Act.put, List.setIfInBounds_toArray, List.set_cons_zero, List.set_cons_succ]
          refine Segs.WP.val 2 rfl (some 19) (.pointer (some ⟨b1, (o1 + k * 4), none⟩)) rfl (by kernel_rfl) (fun WW h => run_indexSes rfl b1 o1 la.length c1 k (by kernel_rfl) (by kernel_rfl) IA.out) ?_
          simp only [Act.put, List.setIfInBounds_toArray, List.set_cons_zero, List.set_cons_succ]
          refine Segs.WP.val 3 rfl (some 20) (.agg (sesC x)) rfl (by kernel_rfl) (fun WW h => run_ses (.tmp 19) rfl b1 (o1 + k * 4) (by kernel_rfl) _ (SA.out _ (B2.out.call h).1)) ?_
          simp only [Act.put, List.setIfInBounds_toArray, List.set_cons_zero, List.set_cons_succ]
          refine Segs.WP.val 4 rfl (some 21) (.slice (some ⟨b2, o2, none⟩) lb.length c2) rfl (by kernel_rfl) (fun WW h => by kernel_rfl) ?_
          simp only [Act.put, List.setIfInBounds_toArray, List.set_cons_zero, List.set_cons_succ]
          refine Segs.WP.val 5 rfl (some 22) (.int .i64 ((k : Int))) rfl (by kernel_rfl) (fun WW h => by kernel_rfl) ?_
          simp only [Act.put, List.setIfInBounds_toArray, List.set_cons_zero, List.set_cons_succ]
          refine Segs.WP.val 6 rfl (some 23) (.pointer (some ⟨b2, (o2 + k * 4), none⟩)) rfl (by kernel_rfl) (fun WW h => run_indexSes rfl b2 o2 lb.length c2 k (by kernel_rfl) (by kernel_rfl) IB.out) ?_
          simp only [Act.put, List.setIfInBounds_toArray, List.set_cons_zero, List.set_cons_succ]
          refine Segs.WP.val 7 rfl (some 24) (.agg (sesC y)) rfl (by kernel_rfl) (fun WW h => run_ses (.tmp 23) rfl b2 (o2 + k * 4) (by kernel_rfl) _ (SB.out _ (B2.out.call h).1)) ?_
          simp only [Act.put, List.setIfInBounds_toArray, List.set_cons_zero, List.set_cons_succ]
          refine Segs.WP.val 8 rfl (some 25) (.bool true) rfl (by kernel_rfl) (fun WW h => run_neSes rfl x y (by kernel_rfl) (by kernel_rfl) true QE.out) ?_
          simp only [Act.put, List.setIfInBounds_toArray, List.set_cons_zero, List.set_cons_succ]
          refine Segs.WP.fin (fun W3 hx => ?_)
          have B4 := Lib.hid (B2.out.call hx)
          clear hx
          go_wp2_with fail
          go_ret
          refine ⟨ret_bool (Eq.symm (decide_eq_false (fun e => he ?_))), HB.out.trans ((far_of_below B4.out.1).below HB.out.size (fun _ e => e.elim))⟩
          have := HX.out
          rw [e, HY.out] at this
          exact (Option.some.inj this).symm
      · obtain rfl : k = la.length := by omega
        go_wp2_with fail
        go_ret
        refine ⟨ret_bool (Eq.symm (decide_eq_true ?_)), HB.out⟩
        have := HT.out
        rwa [List.take_length, hlen, List.take_length] at this
  · go_enter Try.func20, Try.ntmps20
    have q0 : ((la.length : Int) != (lb.length : Int)) = true := by simp; omega
    go_wp2_with fail
    go_ret
    exact ⟨ret_bool (Eq.symm (decide_eq_false (fun e => hlen (by rw [e])))), Below.refl _ _⟩
end Go.Proofs.Ytjladlniilacjaa
