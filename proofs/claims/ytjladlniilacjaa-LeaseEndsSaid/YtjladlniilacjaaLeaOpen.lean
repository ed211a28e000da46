/-
  Package lease: New, Open.
-/
import Derived.Test.YtjladlniilacjaaLeaOps
import Derived.Test.YtjladlniilacjaaWalkP
import Derived.Test.YtjladlniilacjaaLeaNum
import Derived.Deep.Cut
namespace Go.Proofs.Ytjladlniilacjaa
open Go.RowKit Go.Proofs.Lea
set_option linter.unusedVariables false
set_option linter.unusedSimpArgs false
/-- The closure of Open. -/
theorem free1_any (x0 x1 x2 x3 : Int) (v : Value) (hv : ∃ A n c, v = .slice A n c) (w : World) :
    Calls Try.prog 51 #[.agg #[.int .i64 x0, .int .i64 x1, .int .i64 x2, .int .i64 x3, v]] w fun e w' => e = .returned (.bool (decide (x0 = 0))) ∧ Below w.heap.size w w' := by
  obtain ⟨A, n, c, rfl⟩ := hv
  have HB := Lib.hid ((Below.refl w.heap.size w).alloc (Nat.le_refl _) (.cells #[.int .i64 x0, .int .i64 x1, .int .i64 x2, .int .i64 x3, .slice A n c] 89))
  by_cases h : x0 = 0
  · rw [decide_eq_true h]
    subst h
    go_enter Try.func51, Try.ntmps51
    go_wp2_with fail
    go_ret
    exact ⟨rfl, HB.out⟩
  · rw [decide_eq_false h]
    have h2 : (x0 == 0) = false := by simpa using h
    go_enter Try.func51, Try.ntmps51
    go_wp2_with fail
    go_ret
    exact ⟨rfl, HB.out⟩
theorem free_at (t : Tbl) (k : Nat) (hk : k < 4) (h0 : t.id k = 0) (hn : ∀ j, j < k → t.id j ≠ 0) : t.free = some k := by
  unfold Tbl.free
  have : k = 0 ∨ k = 1 ∨ k = 2 ∨ k = 3 := by omega
  show [0, 1, 2, 3].find? _ = _
  rcases this with rfl | rfl | rfl | rfl
  · simp [h0]
  · simp [h0, hn 0 (by omega)]
  · simp [h0, hn 0 (by omega), hn 1 (by omega)]
  · simp [h0, hn 0 (by omega), hn 1 (by omega), hn 2 (by omega)]
section
variable {B m : Nat} {t : Tbl} {vs : Nat → Value} {ve : Value} {w : World}
theorem own_slice {w : World} {B k n : Nat} {T : TypeId} {v : Value} {xs : List Value} (h : w.ownsRow B T k v n xs) : ∃ A n c, v = .slice A n c := by
  rcases h.2 with ⟨rfl, _⟩ | ⟨g, cap, cur, rfl, _⟩
  · exact ⟨_, _, _, rfl⟩
  · exact ⟨_, _, _, rfl⟩
set_option maxRecDepth 100000 in
set_option maxHeartbeats 2000000 in
theorem freeIdx_any (h : Lt B m t vs ve w) (i : Nat) (hi : t.free = some i) :
    Calls Try.prog 50 #[.slice (some ⟨m, 2, none⟩) 4 4, .func (.func 51) #[] #[]] w fun e w' => e = .returned (.int .i64 (i : Int)) ∧ Below w.heap.size w w' := by
  have HIT := Lib.hid (fun i hi W hb => h.hit i hi W hb)
  have OWS := Lib.hid (fun i hi => own_slice (h.rows i hi))
  have eg : ∀ args w, (callFunc 51 args).run Try.prog w = .ok (.enter 51 args) w := enters_of Try.func51 (by kernel_rfl) rfl
  have HI := Lib.hid hi
  clear h hi
  go_enter Try.func50, Try.ntmps50
  go_wp2_with fail
  go_loopw [8] (fun vi wr => ∃ k : Nat, vi = .int .i64 (k : Int) ∧ k ≤ 4 ∧ Hid (∀ j, j < k → t.id j ≠ 0) ∧ Hid (Below w.heap.size w wr)) (fun vi _ => 4 - (intOf vi).toNat)
  case atStart => exact ⟨0, rfl, Nat.zero_le _, Lib.hid (fun j h => absurd h (by omega)), Lib.hid (Below.refl _ _)⟩
  case round =>
    obtain ⟨k, rfl, hk, HN, HB⟩ := hrel
    by_cases hlt : k < 4
    · have HW := HIT.out k hlt wr HB.out
      obtain ⟨A, n, c, hv⟩ := OWS.out k hlt
      have d0 := HW.c0
      have d1 := HW.c1
      have d2 := HW.c2
      have d3 := HW.c3
      have d4 := HW.c4
      rw [hv] at d4
      obtain ⟨x0, hx0⟩ : ∃ z, z = (t.sl k).s.id := ⟨_, rfl⟩
      have HX := Lib.hid hx0
      rw [← hx0] at d0
      generalize (t.sl k).s.block = x1 at d1
      generalize (t.sl k).s.dead = x2 at d2
      generalize (t.sl k).s.last = x3 at d3
      have i1 : (k : Int) < 4 := by omega
      have wk : IntKind.i64.wrap ((k : Int) + 1) = (k : Int) + 1 := IntWalk.i64_in _ (by omega)
      have CALL := Lib.hid (free1_any x0 x1 x2 x3 (.slice A n c) ⟨A, n, c, rfl⟩ wr)
      clear HW hv hx0
      by_cases he : x0 = 0
      · rw [decide_eq_true he] at CALL
        have HE := Lib.hid he
        clear he
        go_wp2_with (go_at_fn 51; refine CALL.out.mono ?_; rintro e w1 ⟨rfl, hb⟩; have HB1 := Lib.hid hb; clear hb)
        go_ret
        have := free_at t k hlt (HX.out.symm.trans HE.out) HN.out
        rw [HI.out] at this
        cases this
        exact ⟨rfl, HB.out.trans (HB1.out.mono HB.out.size)⟩
      · rw [decide_eq_false he] at CALL
        have HE := Lib.hid he
        clear he
        go_wp2_with (go_at_fn 51; refine CALL.out.mono ?_; rintro e w1 ⟨rfl, hb⟩; have HB1 := Lib.hid hb; clear hb)
        refine ⟨⟨k + 1, by go_num, by omega, Lib.hid ?_, Lib.hid (HB.out.trans (HB1.out.mono HB.out.size))⟩, by simp [intOf]; omega⟩
        intro j hj
        rcases Nat.lt_or_ge j k with h | h
        · exact HN.out j h
        · obtain rfl : j = k := by omega
          exact fun e => HE.out (HX.out.trans e)
    · obtain rfl : k = 4 := by omega
      exact absurd (free_some HI.out).2 (HN.out i (free_some HI.out).1)
theorem tC_opened (t : Tbl) (vs : Nat → Value) (ve : Value) : (tC t vs ve).setIfInBounds 22 (.int .i64 ((t.opened : Int) + 1)) = tC { t with opened := t.opened + 1 } vs ve := rfl
theorem opened_ok {t : Tbl} (h : t.Ok) (ho : t.opened ≠ 1048576) : ({ t with opened := t.opened + 1 } : Tbl).Ok :=
  ⟨h.four, h.most, h.term, by have := h.opened; show t.opened + 1 ≤ _; omega, fun i hi => by have := h.ids i hi; exact ⟨this.1, by show t.id i ≤ ((t.opened + 1 : Nat) : Int); omega⟩, h.apart, h.room, h.bare, h.kept,
    fun e he => by obtain ⟨h1, h2, h3⟩ := h.gone e he; exact ⟨h1, by show e ≤ ((t.opened + 1 : Nat) : Int); omega, h3⟩⟩
theorem Lt.opens (h : Lt B m t vs ve w) (ho : t.opened ≠ 1048576) : Lt B m { t with opened := t.opened + 1 } vs ve (w.setCell ⟨m, 22, none⟩ (.int .i64 ((t.opened : Int) + 1))) ∧ Far (fun k => k = m) w (w.setCell ⟨m, 22, none⟩ (.int .i64 ((t.opened : Int) + 1))) := by
  have F : Far (fun j => j = m) w (w.setCell ⟨m, 22, none⟩ (.int .i64 ((t.opened : Int) + 1))) := (Far.refl (fun j => j = m) w).setCell (p := ⟨m, 22, none⟩) (fun _ => rfl) _
  refine ⟨{ blk := ?_, rows := fun i hi => own_far (h.rows i hi) F (fun b hb e => h.vm i hi (by rw [hb, e])), ended := own_far h.ended F (fun b hb e => h.em (by rw [hb, e])), ok := opened_ok h.ok ho, few := h.few, mB := h.mB, vm := h.vm, em := h.em, ev := h.ev, vv := h.vv }, F⟩
  have := h.blk.set 22 (.int .i64 ((t.opened : Int) + 1))
  rw [tC_opened] at this
  exact this
theorem open_end (h : Lt B m t vs ve w) (ho : t.opened ≠ 1048576) (hu : t.used.length ≠ t.most.toNat) (i : Nat) (hfi : t.free = some i) (w5 : World) (L3 : Lt B m { t with opened := t.opened + 1 } vs ve w5) (F : Far (OwnL m vs ve) w w5) (block dd : Int) :
    Stp B m vs ve w { t with slots := t.slots.set i ⟨⟨(t.opened : Int) + 1, block, dd, 0⟩, []⟩, opened := t.opened + 1 } (((((w5.setCell ⟨m, 2 + i * 5, none⟩ (.int .i64 ((t.opened : Int) + 1))).setCell ⟨m, 2 + i * 5 + 1, none⟩ (.int .i64 block)).setCell ⟨m, 2 + i * 5 + 2, none⟩ (.int .i64 dd)).setCell ⟨m, 2 + i * 5 + 3, none⟩ (.int .i64 0)).setCell ⟨m, 2 + i * 5 + 4, none⟩ (.slice none 0 0)) := by
  obtain ⟨hi, h0⟩ := free_some hfi
  have hs : ∀ j, ({ t with slots := t.slots.set i ⟨⟨(t.opened : Int) + 1, block, dd, 0⟩, []⟩, opened := t.opened + 1 } : Tbl).sl j = if j = i then ⟨⟨(t.opened : Int) + 1, block, dd, 0⟩, []⟩ else t.sl j := fun j => sl_set t h.ok.four i hi _ j
  exact Stp.five h F i hi (tC { t with opened := t.opened + 1 } vs ve) L3.blk L3.rows L3.ended _ _ _ _ (tC_five { t with opened := t.opened + 1 } h.ok.four vs ve (.slice none 0 0) i hi ⟨⟨(t.opened : Int) + 1, block, dd, 0⟩, []⟩)
    (by rw [hs, if_pos rfl]) (fun j _ e => by rw [hs, if_neg e]) rfl (open_ok h.ok i hi h0 block dd hu ho)
set_option maxRecDepth 100000 in
set_option maxHeartbeats 4000000 in
theorem open_any (h : Lt B m t vs ve w) (block clock : Int) (hc : 0 ≤ clock ∧ clock ≤ 1000000) :
    Calls Try.prog 24 #[.pointer (some ⟨m, 0, none⟩), .int .i64 block, .int .i64 clock] w fun e w' => e = .returned (.tuple #[.int .i64 (t.opens block clock).2.1, .int .i64 (t.opens block clock).2.2]) ∧ Stp B m vs ve w (t.opens block clock).1 w' := by
  have US := Lib.hid (fun W hb => used_any m t vs ve W (h.blk.below (w' := W) hb))
  obtain ⟨mo, hmo⟩ : ∃ z, z = t.most := ⟨_, rfl⟩
  obtain ⟨op, hop⟩ : ∃ z, z = t.opened := ⟨_, rfl⟩
  have ST : Hid (∀ W, Below w.heap.size w W → W.cell? ⟨m, 0, none⟩ = some (.int .i64 mo) ∧ W.cell? ⟨m, 22, none⟩ = some (.int .i64 (op : Int))) := Lib.hid (fun W hb => ⟨by rw [(h.blk.below hb).cell, hmo]; rfl, by rw [(h.blk.below hb).cell, hop]; rfl⟩)
  have E0 : Hid (Below w.heap.size w w.drew) := Lib.hid (Below.refl _ _).drew
  have HL := Lib.hid h
  have hm := h.ok.most
  unfold Tbl.opens
  rw [← hop, ← hmo]
  rw [← hmo] at hm
  obtain ⟨n, hn⟩ : ∃ z, z = t.used.length := ⟨_, rfl⟩
  rw [← hn] at US ⊢
  have HN := Lib.hid hn
  have hfree := free_ex h.ok
  have HN := Lib.hid hn
  have hfree := free_ex h.ok
  have HN := Lib.hid hn
  have hfree := free_ex h.ok
  have HN := Lib.hid hn
  have hfree := free_ex h.ok
  by_cases h1 : n = mo.toNat
  · rw [if_pos (.inl h1)]
    have Q1 := Lib.hid (show decide ((n : Int) = mo) = true from decide_eq_true (by omega))
    clear h hc hmo hop hn h1 hm hfree
    go_enter Try.func24, Try.ntmps24
    have HB0 := Lib.hid (Bl.start w)
    go_upto_region 1 with (fail)
    refine Segs.wp_region_perm Segs.Hist [(0, false), (3, false), (4, false), (5, false), (6, false), (1, true), (2, false), (7, false), (8, false), (9, false), (10, false), (11, false), (12, false), (13, false), (14, false)] Segs.Hist.refl Segs.Hist.trans (by kernel_rfl) (by kernel_rfl) rfl (by kernel_rfl) (Segs.WP.out ?_)
    have B2 := Lib.hid HB0.out.drew
    generalize w.drew = W1 at B2 ⊢
    refine Segs.WP.val 0 rfl (some 9) (.pointer (some ⟨m, 0, none⟩)) rfl (by kernel_rfl) (fun WW h => by kernel_rfl) ?_
    simp only [Act.put, List.setIfInBounds_toArray, List.set_cons_zero, List.set_cons_succ]
    refine Segs.WP.val 3 rfl (some 12) (.pointer (some ⟨m, 0, none⟩)) rfl (by kernel_rfl) (fun WW h => by kernel_rfl) ?_
    simp only [Act.put, List.setIfInBounds_toArray, List.set_cons_zero, List.set_cons_succ]
    refine Segs.WP.val 4 rfl (some 13) (.pointer (some ⟨m, 0, none⟩)) rfl (by kernel_rfl) (fun WW h => by kernel_rfl) ?_
    simp only [Act.put, List.setIfInBounds_toArray, List.set_cons_zero, List.set_cons_succ]
    refine Segs.WP.val 5 rfl (some 14) (.pointer (some ⟨m, 0, none⟩)) rfl (by kernel_rfl) (fun WW h => by kernel_rfl) ?_
    simp only [Act.put, List.setIfInBounds_toArray, List.set_cons_zero, List.set_cons_succ]
    refine Segs.WP.val 6 rfl (some 15) (.int .i64 mo) rfl (by kernel_rfl) (fun WW h => Segs.run_cell 3 (.tmp 14) rfl m 0 (by kernel_rfl) _ (isAggInt _) (ST.out _ (B2.out.call h).1).1) ?_
    simp only [Act.put, List.setIfInBounds_toArray, List.set_cons_zero, List.set_cons_succ]
    refine Segs.WP.acall 1 rfl (some 10) 42 #[.pointer (some ⟨m, 0, none⟩)] _ rfl rfl (fun W => by kernel_rfl) (fun WW h => US.out WW (Lib.hid (B2.out.call h)).out.1) (fun WW h e W3 hR => ?_)
    obtain ⟨v, rfl, own, hb⟩ := hR
    have hx4 := Segs.Hist.trans _ _ _ h hb
    refine ⟨_, rfl, hb, ?_⟩
    simp only [Act.put, List.setIfInBounds_toArray, List.set_cons_zero, List.set_cons_succ]
    have B5 := Lib.hid (B2.out.call hx4)
    obtain ⟨A, c, rfl, _, _⟩ := Vs.of_own own (by rw [HN.out]; simp)
    clear own
    clear hb hx4 h
    refine Segs.WP.val 2 rfl (some 11) (.int .i64 ((n : Int))) rfl (by kernel_rfl) (fun WW h => by kernel_rfl) ?_
    simp only [Act.put, List.setIfInBounds_toArray, List.set_cons_zero, List.set_cons_succ]
    refine Segs.WP.val 7 rfl (some 16) (.bool true) rfl (by kernel_rfl) (fun WW h => run_eqi rfl _ _ (by kernel_rfl) (by kernel_rfl) true Q1.out) ?_
    simp only [Act.put, List.setIfInBounds_toArray, List.set_cons_zero, List.set_cons_succ]
    refine Segs.WP.val 8 rfl (some 17) (.bool true) rfl (by kernel_rfl) (fun WW h => by kernel_rfl) ?_
    simp only [Act.put, List.setIfInBounds_toArray, List.set_cons_zero, List.set_cons_succ]
    refine Segs.WP.not 9 rfl (some 18) rfl (by kernel_rfl) ?_
    simp only [Act.put, List.setIfInBounds_toArray, List.set_cons_zero, List.set_cons_succ]
    refine Segs.WP.not 10 rfl (some 19) rfl (by kernel_rfl) ?_
    simp only [Act.put, List.setIfInBounds_toArray, List.set_cons_zero, List.set_cons_succ]
    refine Segs.WP.not 11 rfl (some 20) rfl (by kernel_rfl) ?_
    simp only [Act.put, List.setIfInBounds_toArray, List.set_cons_zero, List.set_cons_succ]
    refine Segs.WP.not 12 rfl (some 21) rfl (by kernel_rfl) ?_
    simp only [Act.put, List.setIfInBounds_toArray, List.set_cons_zero, List.set_cons_succ]
    refine Segs.WP.not 13 rfl (some 22) rfl (by kernel_rfl) ?_
    simp only [Act.put, List.setIfInBounds_toArray, List.set_cons_zero, List.set_cons_succ]
    refine Segs.WP.val 14 rfl (some 23) (.bool true) rfl (by kernel_rfl) (fun WW h => by kernel_rfl) ?_
    simp only [Act.put, List.setIfInBounds_toArray, List.set_cons_zero, List.set_cons_succ]
    refine Segs.WP.fin (fun W6 hx => ?_)
    have B7 := Lib.hid (B5.out.call hx)
    clear hx
    go_wp2_with fail
    go_ret2
    exact ⟨rfl, Stp.same HL.out B7.out.1⟩
  have Q1 := Lib.hid (show decide ((n : Int) = mo) = false from decide_eq_false (by omega))
  by_cases h2 : op = 1048576
  · rw [if_pos (.inr h2)]
    have Q2 := Lib.hid (show decide ((op : Int) = 1048576) = true from decide_eq_true (by omega))
    clear h hc hmo hop hn h1 h2 hm hfree
    go_enter Try.func24, Try.ntmps24
    have HB0 := Lib.hid (Bl.start w)
    go_upto_region 1 with (fail)
    refine Segs.wp_region_perm Segs.Hist [(0, false), (3, false), (4, false), (5, false), (6, false), (1, true), (2, false), (7, false), (8, false), (9, false), (10, false), (11, false), (12, false), (13, false), (14, false)] Segs.Hist.refl Segs.Hist.trans (by kernel_rfl) (by kernel_rfl) rfl (by kernel_rfl) (Segs.WP.out ?_)
    have B2 := Lib.hid HB0.out.drew
    generalize w.drew = W1 at B2 ⊢
    refine Segs.WP.val 0 rfl (some 9) (.pointer (some ⟨m, 0, none⟩)) rfl (by kernel_rfl) (fun WW h => by kernel_rfl) ?_
    simp only [Act.put, List.setIfInBounds_toArray, List.set_cons_zero, List.set_cons_succ]
    refine Segs.WP.val 3 rfl (some 12) (.pointer (some ⟨m, 0, none⟩)) rfl (by kernel_rfl) (fun WW h => by kernel_rfl) ?_
    simp only [Act.put, List.setIfInBounds_toArray, List.set_cons_zero, List.set_cons_succ]
    refine Segs.WP.val 4 rfl (some 13) (.pointer (some ⟨m, 0, none⟩)) rfl (by kernel_rfl) (fun WW h => by kernel_rfl) ?_
    simp only [Act.put, List.setIfInBounds_toArray, List.set_cons_zero, List.set_cons_succ]
    refine Segs.WP.val 5 rfl (some 14) (.pointer (some ⟨m, 0, none⟩)) rfl (by kernel_rfl) (fun WW h => by kernel_rfl) ?_
    simp only [Act.put, List.setIfInBounds_toArray, List.set_cons_zero, List.set_cons_succ]
    refine Segs.WP.val 6 rfl (some 15) (.int .i64 mo) rfl (by kernel_rfl) (fun WW h => Segs.run_cell 3 (.tmp 14) rfl m 0 (by kernel_rfl) _ (isAggInt _) (ST.out _ (B2.out.call h).1).1) ?_
    simp only [Act.put, List.setIfInBounds_toArray, List.set_cons_zero, List.set_cons_succ]
    refine Segs.WP.acall 1 rfl (some 10) 42 #[.pointer (some ⟨m, 0, none⟩)] _ rfl rfl (fun W => by kernel_rfl) (fun WW h => US.out WW (Lib.hid (B2.out.call h)).out.1) (fun WW h e W3 hR => ?_)
    obtain ⟨v, rfl, own, hb⟩ := hR
    have hx4 := Segs.Hist.trans _ _ _ h hb
    refine ⟨_, rfl, hb, ?_⟩
    simp only [Act.put, List.setIfInBounds_toArray, List.set_cons_zero, List.set_cons_succ]
    have B5 := Lib.hid (B2.out.call hx4)
    obtain ⟨A, c, rfl, _, _⟩ := Vs.of_own own (by rw [HN.out]; simp)
    clear own
    clear hb hx4 h
    refine Segs.WP.val 2 rfl (some 11) (.int .i64 ((n : Int))) rfl (by kernel_rfl) (fun WW h => by kernel_rfl) ?_
    simp only [Act.put, List.setIfInBounds_toArray, List.set_cons_zero, List.set_cons_succ]
    refine Segs.WP.val 7 rfl (some 16) (.bool false) rfl (by kernel_rfl) (fun WW h => run_eqi rfl _ _ (by kernel_rfl) (by kernel_rfl) false Q1.out) ?_
    simp only [Act.put, List.setIfInBounds_toArray, List.set_cons_zero, List.set_cons_succ]
    refine Segs.WP.val 8 rfl (some 17) (.bool false) rfl (by kernel_rfl) (fun WW h => by kernel_rfl) ?_
    simp only [Act.put, List.setIfInBounds_toArray, List.set_cons_zero, List.set_cons_succ]
    refine Segs.WP.val 9 rfl (some 18) (.pointer (some ⟨m, 0, none⟩)) rfl (by kernel_rfl) (fun WW h => by kernel_rfl) ?_
    simp only [Act.put, List.setIfInBounds_toArray, List.set_cons_zero, List.set_cons_succ]
    refine Segs.WP.val 10 rfl (some 19) (.pointer (some ⟨m, 0, none⟩)) rfl (by kernel_rfl) (fun WW h => by kernel_rfl) ?_
    simp only [Act.put, List.setIfInBounds_toArray, List.set_cons_zero, List.set_cons_succ]
    refine Segs.WP.val 11 rfl (some 20) (.pointer (some ⟨m, 22, none⟩)) rfl (by kernel_rfl) (fun WW h => by kernel_rfl) ?_
    simp only [Act.put, List.setIfInBounds_toArray, List.set_cons_zero, List.set_cons_succ]
    refine Segs.WP.val 12 rfl (some 21) (.int .i64 ((op : Int))) rfl (by kernel_rfl) (fun WW h => Segs.run_cell 3 (.tmp 20) rfl m 22 (by kernel_rfl) _ (isAggInt _) (ST.out _ (B5.out.call h).1).2) ?_
    simp only [Act.put, List.setIfInBounds_toArray, List.set_cons_zero, List.set_cons_succ]
    refine Segs.WP.val 13 rfl (some 22) (.bool true) rfl (by kernel_rfl) (fun WW h => run_eqi rfl _ _ (by kernel_rfl) (by kernel_rfl) true Q2.out) ?_
    simp only [Act.put, List.setIfInBounds_toArray, List.set_cons_zero, List.set_cons_succ]
    refine Segs.WP.val 14 rfl (some 23) (.bool true) rfl (by kernel_rfl) (fun WW h => by kernel_rfl) ?_
    simp only [Act.put, List.setIfInBounds_toArray, List.set_cons_zero, List.set_cons_succ]
    refine Segs.WP.fin (fun W6 hx => ?_)
    have B7 := Lib.hid (B5.out.call hx)
    clear hx
    go_wp2_with fail
    go_ret2
    exact ⟨rfl, Stp.same HL.out B7.out.1⟩
  · rw [if_neg (fun e => e.elim h1 h2)]
    have Q2 := Lib.hid (show decide ((op : Int) = 1048576) = false from decide_eq_false (by omega))
    obtain ⟨i, hfi⟩ := hfree (by rw [← hn, ← hmo]; exact h1)
    rw [hfi]
    simp only
    have HFI := Lib.hid hfi
    have OPN := Lib.hid (show t.opened ≠ 1048576 by rw [← hop]; exact h2)
    have hle := h.ok.opened
    rw [← hop] at hle
    obtain ⟨tm, htm⟩ : ∃ z, z = t.term := ⟨_, rfl⟩
    have htb := h.ok.term
    rw [← htm] at htb
    have HU : Hid (t.used.length ≠ t.most.toNat) := Lib.hid (by rw [← hn, ← hmo]; exact h1)
    have HOP := Lib.hid hop
    have HTM := Lib.hid htm
    have HMO := Lib.hid hmo
    have wk : IntKind.i64.wrap ((op : Int) + 1) = (op : Int) + 1 := IntWalk.i64_in _ (by omega)
    have wk2 : IntKind.i64.wrap (clock + tm) = clock + tm := IntWalk.i64_in _ (by omega)
    rw [← htm]
    clear h hmo hop hn h1 h2 hm hfree hfi htm
    go_enter Try.func24, Try.ntmps24
    have HB0 := Lib.hid (Bl.start w)
    go_upto_region 1 with (fail)
    refine Segs.wp_region_perm Segs.Hist [(0, false), (3, false), (4, false), (5, false), (6, false), (1, true), (2, false), (7, false), (8, false), (9, false), (10, false), (11, false), (12, false), (13, false), (14, false)] Segs.Hist.refl Segs.Hist.trans (by kernel_rfl) (by kernel_rfl) rfl (by kernel_rfl) (Segs.WP.out ?_)
    have B2 := Lib.hid HB0.out.drew
    generalize w.drew = W1 at B2 ⊢
    refine Segs.WP.val 0 rfl (some 9) (.pointer (some ⟨m, 0, none⟩)) rfl (by kernel_rfl) (fun WW h => by kernel_rfl) ?_
    simp only [Act.put, List.setIfInBounds_toArray, List.set_cons_zero, List.set_cons_succ]
    refine Segs.WP.val 3 rfl (some 12) (.pointer (some ⟨m, 0, none⟩)) rfl (by kernel_rfl) (fun WW h => by kernel_rfl) ?_
    simp only [Act.put, List.setIfInBounds_toArray, List.set_cons_zero, List.set_cons_succ]
    refine Segs.WP.val 4 rfl (some 13) (.pointer (some ⟨m, 0, none⟩)) rfl (by kernel_rfl) (fun WW h => by kernel_rfl) ?_
    simp only [Act.put, List.setIfInBounds_toArray, List.set_cons_zero, List.set_cons_succ]
    refine Segs.WP.val 5 rfl (some 14) (.pointer (some ⟨m, 0, none⟩)) rfl (by kernel_rfl) (fun WW h => by kernel_rfl) ?_
    simp only [Act.put, List.setIfInBounds_toArray, List.set_cons_zero, List.set_cons_succ]
    refine Segs.WP.val 6 rfl (some 15) (.int .i64 mo) rfl (by kernel_rfl) (fun WW h => Segs.run_cell 3 (.tmp 14) rfl m 0 (by kernel_rfl) _ (isAggInt _) (ST.out _ (B2.out.call h).1).1) ?_
    simp only [Act.put, List.setIfInBounds_toArray, List.set_cons_zero, List.set_cons_succ]
    refine Segs.WP.acall 1 rfl (some 10) 42 #[.pointer (some ⟨m, 0, none⟩)] _ rfl rfl (fun W => by kernel_rfl) (fun WW h => US.out WW (Lib.hid (B2.out.call h)).out.1) (fun WW h e W3 hR => ?_)
    obtain ⟨v, rfl, own, hb⟩ := hR
    have hx4 := Segs.Hist.trans _ _ _ h hb
    refine ⟨_, rfl, hb, ?_⟩
    simp only [Act.put, List.setIfInBounds_toArray, List.set_cons_zero, List.set_cons_succ]
    have B5 := Lib.hid (B2.out.call hx4)
    obtain ⟨A, c, rfl, _, _⟩ := Vs.of_own own (by rw [HN.out]; simp)
    clear own
    clear hb hx4 h
    refine Segs.WP.val 2 rfl (some 11) (.int .i64 ((n : Int))) rfl (by kernel_rfl) (fun WW h => by kernel_rfl) ?_
    simp only [Act.put, List.setIfInBounds_toArray, List.set_cons_zero, List.set_cons_succ]
    refine Segs.WP.val 7 rfl (some 16) (.bool false) rfl (by kernel_rfl) (fun WW h => run_eqi rfl _ _ (by kernel_rfl) (by kernel_rfl) false Q1.out) ?_
    simp only [Act.put, List.setIfInBounds_toArray, List.set_cons_zero, List.set_cons_succ]
    refine Segs.WP.val 8 rfl (some 17) (.bool false) rfl (by kernel_rfl) (fun WW h => by kernel_rfl) ?_
    simp only [Act.put, List.setIfInBounds_toArray, List.set_cons_zero, List.set_cons_succ]
    refine Segs.WP.val 9 rfl (some 18) (.pointer (some ⟨m, 0, none⟩)) rfl (by kernel_rfl) (fun WW h => by kernel_rfl) ?_
    simp only [Act.put, List.setIfInBounds_toArray, List.set_cons_zero, List.set_cons_succ]
    refine Segs.WP.val 10 rfl (some 19) (.pointer (some ⟨m, 0, none⟩)) rfl (by kernel_rfl) (fun WW h => by kernel_rfl) ?_
    simp only [Act.put, List.setIfInBounds_toArray, List.set_cons_zero, List.set_cons_succ]
    refine Segs.WP.val 11 rfl (some 20) (.pointer (some ⟨m, 22, none⟩)) rfl (by kernel_rfl) (fun WW h => by kernel_rfl) ?_
    simp only [Act.put, List.setIfInBounds_toArray, List.set_cons_zero, List.set_cons_succ]
    refine Segs.WP.val 12 rfl (some 21) (.int .i64 ((op : Int))) rfl (by kernel_rfl) (fun WW h => Segs.run_cell 3 (.tmp 20) rfl m 22 (by kernel_rfl) _ (isAggInt _) (ST.out _ (B5.out.call h).1).2) ?_
    simp only [Act.put, List.setIfInBounds_toArray, List.set_cons_zero, List.set_cons_succ]
    refine Segs.WP.val 13 rfl (some 22) (.bool false) rfl (by kernel_rfl) (fun WW h => run_eqi rfl _ _ (by kernel_rfl) (by kernel_rfl) false Q2.out) ?_
    simp only [Act.put, List.setIfInBounds_toArray, List.set_cons_zero, List.set_cons_succ]
    refine Segs.WP.val 14 rfl (some 23) (.bool false) rfl (by kernel_rfl) (fun WW h => by kernel_rfl) ?_
    simp only [Act.put, List.setIfInBounds_toArray, List.set_cons_zero, List.set_cons_succ]
    refine Segs.WP.fin (fun W6 hx => ?_)
    have B7 := Lib.hid (B5.out.call hx)
    clear hx
    have L1 := Lib.hid (HL.out.below B7.out.1)
    have c22 : W6.cell? ⟨m, 22, none⟩ = some (.int .i64 (op : Int)) := (ST.out _ B7.out.1).2
    have f22 : W6.frozen? ⟨m, 22, none⟩ = false := L1.out.blk.frozen 22
    have L2 := Lib.hid (L1.out.opens OPN.out)
    rw [← HOP.out] at L2
    have FI := Lib.hid (freeIdx_any L2.out.1 i HFI.out)
    go_wp2_with (go_at_call 50; refine FI.out.mono ?_; rintro e w5 ⟨rfl, hb⟩; have B5 := Lib.hid hb; clear hb)
    have hi4 := (free_some HFI.out).1
    have L3 := Lib.hid (L2.out.1.below B5.out)
    have HW := L3.out.hit i hi4 _ (Below.refl _ _)
    have e0 := HW.c0
    have e1 := HW.c1
    have e2 := HW.c2
    have e3 := HW.c3
    have e4 := HW.c4
    have g0 := HW.f (2 + i * 5)
    have g1 := HW.f (2 + i * 5 + 1)
    have g2 := HW.f (2 + i * 5 + 2)
    have g3 := HW.f (2 + i * 5 + 3)
    have g4 := HW.f (2 + i * 5 + 4)
    have e22 : w5.cell? ⟨m, 22, none⟩ = some (.int .i64 ((op : Int) + 1)) := by
      rw [L3.out.blk.cell, HOP.out]
      rfl
    have e11 : w5.cell? ⟨m, 1, none⟩ = some (.int .i64 tm) := by
      rw [L3.out.blk.cell, HTM.out]
      rfl
    clear HW L1 c22 f22 FI
    have hcase : i = 0 ∨ i = 1 ∨ i = 2 ∨ i = 3 := by omega
    rcases hcase with rfl | rfl | rfl | rfl
    all_goals
      simp only [Nat.zero_mul, Nat.one_mul, Nat.add_zero, Nat.reduceMul, Nat.reduceAdd] at e0 e1 e2 e3 e4 g0 g1 g2 g3 g4
      go_region
      all_goals
        go_wp2_with fail
        go_ret2
        have L4 := L3.out
        rw [HOP.out] at L4
        rw [HOP.out, HTM.out, HMO.out]
        have F := (((far_of_below B7.out.1).mono (S' := OwnL m vs ve) (fun _ _ e => e.elim)).trans L2.out.2 (fun _ _ e => .inl e)).call B5.out
        exact ⟨rfl, (open_end HL.out OPN.out HU.out _ HFI.out _ L4 F block (clock + t.term)).then (Below.refl _ _).drew⟩
end
end Go.Proofs.Ytjladlniilacjaa
