/-
  canon.Clash: two texts that collide, of two maps that are not alike, but whose roots are.
-/
import Derived.Test.YtfeonjiiijdibaaGreatDoorCanFirst
import Derived.Test.YtfeonjiiijdibaaGreatDoorMdlEq
import Derived.Deep.RegionHeld3
namespace Go.Proofs.YtfeonjiiijdibaaGreatDoor
open Go.RowKit Go.Proofs.Nod Go.Proofs.Can
open Go.Proofs.Mdl hiding e0
set_option linter.unusedVariables false
set_option linter.unusedSimpArgs false
/-- Two texts that collide, of two maps. -/
def clashM (a b : List Ent) : Option (ByteArray × ByteArray) := if a = b then none else if shaB (topM a) = shaB (topM b) then firstT (nodesT (treeM a)) (nodesT (treeM b)) else none
theorem blk_new2 (w : World) (t : TypeId) (cs : Array Value) (o : Obj) : Blk ((w.alloc o).alloc (.cells cs t)) (w.heap.size + 1) t cs := by
  have := Blk.new (w.alloc o) t cs
  rwa [World.size_alloc] at this
theorem nodesT_first (t : Tr) : (nodesT t)[0]? = some (tx t) := by
  have := (picked (tx t) (texts t)).first
  rw [nodesT_eq, ← List.head?_eq_getElem?]
  exact this
theorem nodesT_few {l : List Ent} (hg : Mdl.Good l) : (nodesT (treeM l)).length ≤ 1000 := by
  have h1 := (picked (tx (treeM l)) (texts (treeM l))).few
  rw [nodesT_eq]
  have hf := hg.few
  rcases hl : l with _ | ⟨a, r⟩
  · decide +kernel
  · have h2 := (grow_count _ (pathsL l) (Wf.paths hg) (Nat.lt_succ_self _) (by rw [paths_length, hl]; simp)).1
    rw [paths_length] at h2
    have h3 : (texts (treeM l)).length + 2 ≤ 3 * l.length := h2
    rw [← hl]
    omega
theorem nodesT_size {l : List Ent} (hg : Mdl.Good l) : ∀ x ∈ nodesT (treeM l), x.size ≤ 1000 := fun x hx => by
  rw [nodesT_eq] at hx
  rcases ((picked (tx (treeM l)) (texts (treeM l))).out x).1 hx with rfl | ⟨h, _⟩
  · have := tx_size (treeM_ok hg); omega
  · exact texts_size (Wf.paths hg) x h
set_option maxRecDepth 100000 in
set_option maxHeartbeats 8000000 in
theorem clash_ok {w : World} {va vb : Value} {la lb : List Ent} (ha : Es w va la) (hb : Es w vb lb) (ga : Mdl.Good la) (gb : Mdl.Good lb) (hL : LaidN w) :
    Calls Tryz.prog 31 #[va, vb] w fun e w' => e = .returned (firstV (clashM la lb)) ∧ Below w.heap.size w w' := by
  have N1 := Lib.hid (nodes_ok ha ga hL)
  have N2 : Hid (∀ W, Below w.heap.size w W → Calls Tryz.prog 16 #[vb] W fun e w' => ∃ v', e = .returned (.tuple #[v', .int .i64 0]) ∧ w'.ownsRow W.heap.size 9 1 v' (nodesT (treeM lb)).length ((nodesT (treeM lb)).map Value.string) ∧ Below W.heap.size W w') := Lib.hid (fun W hW => nodes_ok (hb.below hW) gb (hL.on hW))
  have EQ : Hid (∀ W, Below w.heap.size w W → Calls Tryz.prog 58 #[va, vb] W fun e w' => e = .returned (.bool (decide (la = lb))) ∧ Below W.heap.size W w') := Lib.hid (fun W hW => equalE_any (ha.below hW) (hb.below hW) (by have := ga.few; omega))
  have LA : Hid (∀ W, Below w.heap.size w W → LaidN W) := Lib.hid (fun W h => hL.on h)
  have FA := Lib.hid (nodesT_first (treeM la))
  have FB := Lib.hid (nodesT_first (treeM lb))
  have LNA := Lib.hid (nodesT_few ga)
  have LNB := Lib.hid (nodesT_few gb)
  have SA := Lib.hid (nodesT_size ga)
  have SB := Lib.hid (nodesT_size gb)
  have TA := Lib.hid (topM_size ga)
  have TB := Lib.hid (topM_size gb)
  unfold clashM
  change Hid ((nodesT (treeM la))[0]? = some (topM la)) at FA
  change Hid ((nodesT (treeM lb))[0]? = some (topM lb)) at FB
  generalize topM la = Ta at *
  generalize topM lb = Tb at *
  generalize nodesT (treeM la) = na at *
  generalize nodesT (treeM lb) = nb at *
  obtain ⟨A, ca, rfl⟩ := ha.shape
  obtain ⟨B, cb, rfl⟩ := hb.shape
  by_cases hq : la = lb
  · rw [if_pos hq]
    rw [decide_eq_true hq] at EQ
    clear hq ha hb ga gb hL
    go_enter Tryz.func31, Tryz.ntmps31
    go_upto_region 3 with (first
      | (go_at_call_of 16 (Value.slice A la.length ca); refine N1.out.mono ?_; clear N1; rintro e w2 ⟨v2, rfl, hown, hb2⟩; obtain ⟨A2, c2, hv2⟩ := own_shape hown; subst hv2; have B2 := Lib.hid hb2; clear hown hb2)
      | (go_at_call 16; refine (N2.out _ B2.out).mono ?_; rintro e w3 ⟨v3, rfl, hown, hb3⟩; obtain ⟨A3, c3, hv3⟩ := own_shape hown; subst hv3; have B3 := Lib.hid (B2.out.trans (hb3.mono B2.out.size)); clear hown hb3))
    have D3 : Hid (Bl w.heap.size w w3.drew) := Lib.hid ⟨B3.out.drew, B3.out.size⟩
    refine Segs.wp_region_perm Segs.Hist [(0, false), (1, false), (2, false), (3, false), (4, false), (5, false), (6, false), (7, false), (8, false), (9, false), (10, false), (11, false), (12, false), (13, false), (14, false), (15, false), (16, false), (17, false), (18, false), (19, false), (20, false), (21, false), (22, false), (23, false)] Segs.Hist.refl Segs.Hist.trans (by kernel_rfl) (by kernel_rfl) rfl (by kernel_rfl) (Segs.WP.out ?_)
    generalize w3.drew = W1 at D3 ⊢
    refine Segs.WP.val 0 rfl (some 21) (.int .i64 0) rfl (by kernel_rfl) (fun WW h => by kernel_rfl) ?_
    simp only [Act.put, List.setIfInBounds_toArray, List.set_cons_zero, List.set_cons_succ]
    refine Segs.WP.val 1 rfl (some 22) (.bool false) rfl (by kernel_rfl) (fun WW h => by kernel_rfl) ?_
    simp only [Act.put, List.setIfInBounds_toArray, List.set_cons_zero, List.set_cons_succ]
    refine Segs.WP.val 2 rfl (some 23) (.bool false) rfl (by kernel_rfl) (fun WW h => by kernel_rfl) ?_
    simp only [Act.put, List.setIfInBounds_toArray, List.set_cons_zero, List.set_cons_succ]
    refine Segs.WP.val 3 rfl (some 24) (.int .i64 0) rfl (by kernel_rfl) (fun WW h => by kernel_rfl) ?_
    simp only [Act.put, List.setIfInBounds_toArray, List.set_cons_zero, List.set_cons_succ]
    refine Segs.WP.val 4 rfl (some 25) (.bool false) rfl (by kernel_rfl) (fun WW h => by kernel_rfl) ?_
    simp only [Act.put, List.setIfInBounds_toArray, List.set_cons_zero, List.set_cons_succ]
    refine Segs.WP.val 5 rfl (some 26) (.bool false) rfl (by kernel_rfl) (fun WW h => by kernel_rfl) ?_
    simp only [Act.put, List.setIfInBounds_toArray, List.set_cons_zero, List.set_cons_succ]
    refine Segs.WP.val 6 rfl (some 27) (.bool false) rfl (by kernel_rfl) (fun WW h => by kernel_rfl) ?_
    simp only [Act.put, List.setIfInBounds_toArray, List.set_cons_zero, List.set_cons_succ]
    refine Segs.WP.val 7 rfl (some 28) (.slice A la.length ca) rfl (by kernel_rfl) (fun WW h => by kernel_rfl) ?_
    simp only [Act.put, List.setIfInBounds_toArray, List.set_cons_zero, List.set_cons_succ]
    refine Segs.WP.val 8 rfl (some 29) (.slice B lb.length cb) rfl (by kernel_rfl) (fun WW h => by kernel_rfl) ?_
    simp only [Act.put, List.setIfInBounds_toArray, List.set_cons_zero, List.set_cons_succ]
    refine Segs.WP.call 9 rfl (some 30) 58 #[.slice A la.length ca, .slice B lb.length cb] (.bool true) rfl (by kernel_rfl) (fun WW => by kernel_rfl) (fun WW h => EQ.out WW (D3.out.call h).1) ?_
    simp only [Act.put, List.setIfInBounds_toArray, List.set_cons_zero, List.set_cons_succ]
    refine Segs.WP.val 10 rfl (some 31) (.bool true) rfl (by kernel_rfl) (fun WW h => by kernel_rfl) ?_
    simp only [Act.put, List.setIfInBounds_toArray, List.set_cons_zero, List.set_cons_succ]
    refine Segs.WP.val 11 rfl (some 32) (.bool true) rfl (by kernel_rfl) (fun WW h => by kernel_rfl) ?_
    simp only [Act.put, List.setIfInBounds_toArray, List.set_cons_zero, List.set_cons_succ]
    refine Segs.WP.not 12 rfl (some 33) rfl (by kernel_rfl) ?_
    simp only [Act.put, List.setIfInBounds_toArray, List.set_cons_zero, List.set_cons_succ]
    refine Segs.WP.not 13 rfl (some 34) rfl (by kernel_rfl) ?_
    simp only [Act.put, List.setIfInBounds_toArray, List.set_cons_zero, List.set_cons_succ]
    refine Segs.WP.not 14 rfl (some 35) rfl (by kernel_rfl) ?_
    simp only [Act.put, List.setIfInBounds_toArray, List.set_cons_zero, List.set_cons_succ]
    refine Segs.WP.not 15 rfl (some 36) rfl (by kernel_rfl) ?_
    simp only [Act.put, List.setIfInBounds_toArray, List.set_cons_zero, List.set_cons_succ]
    refine Segs.WP.not 16 rfl (some 37) rfl (by kernel_rfl) ?_
    simp only [Act.put, List.setIfInBounds_toArray, List.set_cons_zero, List.set_cons_succ]
    refine Segs.WP.not 17 rfl (some 38) rfl (by kernel_rfl) ?_
    simp only [Act.put, List.setIfInBounds_toArray, List.set_cons_zero, List.set_cons_succ]
    refine Segs.WP.not 18 rfl (some 39) rfl (by kernel_rfl) ?_
    simp only [Act.put, List.setIfInBounds_toArray, List.set_cons_zero, List.set_cons_succ]
    refine Segs.WP.not 19 rfl (some 40) rfl (by kernel_rfl) ?_
    simp only [Act.put, List.setIfInBounds_toArray, List.set_cons_zero, List.set_cons_succ]
    refine Segs.WP.not 20 rfl (some 41) rfl (by kernel_rfl) ?_
    simp only [Act.put, List.setIfInBounds_toArray, List.set_cons_zero, List.set_cons_succ]
    refine Segs.WP.not 21 rfl (some 42) rfl (by kernel_rfl) ?_
    simp only [Act.put, List.setIfInBounds_toArray, List.set_cons_zero, List.set_cons_succ]
    refine Segs.WP.not 22 rfl (some 43) rfl (by kernel_rfl) ?_
    simp only [Act.put, List.setIfInBounds_toArray, List.set_cons_zero, List.set_cons_succ]
    refine Segs.WP.val 23 rfl (some 44) (.bool true) rfl (by kernel_rfl) (fun WW h => by kernel_rfl) ?_
    simp only [Act.put, List.setIfInBounds_toArray, List.set_cons_zero, List.set_cons_succ]
    refine Segs.WP.fin (fun w4 hx => ?_)
    have B4 := Lib.hid (D3.out.call hx).1
    clear hx
    go_wp2_with fail
    go_returns
    exact ⟨rfl, B4.out⟩
  · rw [if_neg hq]
    rw [decide_eq_false hq] at EQ
    obtain ⟨OUT, hOUT⟩ : ∃ o, o = (if shaB Ta = shaB Tb then firstT na nb else none) := ⟨_, rfl⟩
    have HOUT := Lib.hid hOUT
    rw [← hOUT]
    clear hOUT
    have OF : Hid (∀ (x : ByteArray) W b, x.size ≤ 700 → Below w.heap.size w W → Blk W b 9 #[.string x] → Calls Tryz.prog 34 #[.slice (some ⟨b, 0, none⟩) 1 1] W fun e w' => e = .returned (.string (shaB x)) ∧ Below W.heap.size W w') := Lib.hid (fun x W b hx hW hB => of_one x b W (LA.out W hW).sha (by omega) hB)
    clear hq ha hb ga gb hL
    go_enter Tryz.func31, Tryz.ntmps31
    go_upto_region 3 with (first
      | (go_at_call_of 16 (Value.slice A la.length ca); refine N1.out.mono ?_; clear N1; rintro e w2 ⟨v2, rfl, hown, hb2⟩; obtain ⟨A2, c2, hv2, hs2⟩ := (Sl.of_own hown).shape; have SLA := Lib.hid (Sl.of_own hown); subst hv2; have S2 := Lib.hid hs2; have B2 := Lib.hid hb2; clear hown hs2 hb2)
      | (go_at_call 16; refine (N2.out _ B2.out).mono ?_; rintro e w3 ⟨v3, rfl, hown, hb3⟩; obtain ⟨A3, c3, hv3, hs3⟩ := (Sl.of_own hown).shape; have SLB := Lib.hid (Sl.of_own hown); have SLA3 := Lib.hid (SLA.out.below hb3); subst hv3; have S2b := Lib.hid (S2.out.below hb3); have S3 := Lib.hid hs3; have B3 := Lib.hid (B2.out.trans (hb3.mono B2.out.size)); clear hown hs3 hb3))
    have D3 : Hid (Below w.heap.size w w3.drew) := Lib.hid B3.out.drew
    have l1 : 0 < na.length := (List.getElem?_eq_some_iff.1 FA.out).1
    have l2 : 0 < nb.length := (List.getElem?_eq_some_iff.1 FB.out).1
    obtain ⟨b1, o1, h1, p1, c1⟩ := S2b.out.at_ 0 l1
    obtain ⟨b2, o2, h2, p2, c2'⟩ := S3.out.at_ 0 l2
    subst h1; subst h2
    have e1 : na[0]'l1 = Ta := (List.getElem?_eq_some_iff.1 FA.out).2
    have e2 : nb[0]'l2 = Tb := (List.getElem?_eq_some_iff.1 FB.out).2
    rw [e1] at c1
    rw [e2] at c2'
    simp only [Nat.add_zero] at c1 c2'
    clear e1 e2
    have ST : Hid (∀ W, Below w3.heap.size w3 W → W.cell? ⟨b1, o1, none⟩ = some (.string Ta) ∧ W.cell? ⟨b2, o2, none⟩ = some (.string Tb)) := Lib.hid (fun W hW => ⟨(hW.cell (p := ⟨b1, _, none⟩) p1).trans c1, (hW.cell (p := ⟨b2, _, none⟩) p2).trans c2'⟩)
    have E3 : Hid (Below w3.heap.size w3 w3.drew) := Lib.hid (Below.refl _ _).drew
    have i1 : (0 : Int) < (na.length : Int) := by omega
    have i2 : (0 : Int) < (nb.length : Int) := by omega
    clear c1 c2' p1 p2
    have OA : Hid (∀ W b, Below w.heap.size w W → Blk W b 9 #[.string Ta] → Calls Tryz.prog 34 #[.slice (some ⟨b, 0, none⟩) 1 1] W fun e w' => e = .returned (.string (shaB Ta)) ∧ Below W.heap.size W w') := Lib.hid (fun W b => OF.out Ta W b TA.out)
    have OB : Hid (∀ W b, Below w.heap.size w W → Blk W b 9 #[.string Tb] → Calls Tryz.prog 34 #[.slice (some ⟨b, 0, none⟩) 1 1] W fun e w' => e = .returned (.string (shaB Tb)) ∧ Below W.heap.size W w') := Lib.hid (fun W b => OF.out Tb W b TB.out)
    by_cases he : shaB Ta = shaB Tb
    · have be : ((shaB Ta).toList == (shaB Tb).toList) = true := by rw [bytes_eqC]; exact decide_eq_true he
      have be2 : ((shaB Ta).toList != (shaB Tb).toList) = false := by rw [bne, be]; rfl
      have HO : Hid (OUT = firstT na nb) := Lib.hid (by rw [HOUT.out, if_pos he])
      clear he OF HOUT
      generalize shaB Ta = Ha at *
      generalize shaB Tb = Hb at *
      go_region_held3 (fun W => W.cell? ⟨b1, o1, none⟩ = some (.string Ta) ∧ W.cell? ⟨b2, o2, none⟩ = some (.string Tb))
        (first | (with_reducible exact ST.out _ E3.out) | (with_reducible exact ST.out _ E4.out) | (with_reducible exact ST.out _ E5.out) | (with_reducible exact ST.out _ E5a.out) | (with_reducible exact ST.out _ E5b.out) | (with_reducible exact ST.out _ E5c.out) | (with_reducible exact ST.out _ E5d.out) | (with_reducible exact ST.out _ E5e.out) | (with_reducible exact ST.out _ E6.out))
        (first
          | (go_at_call 58; with_reducible refine (EQ.out _ D3.out).mono ?_; rintro e w4 ⟨rfl, hb4⟩; have D4 := Lib.hid (D3.out.trans (hb4.mono D3.out.size)); have E4 := Lib.hid (E3.out.trans (hb4.mono E3.out.size));
             have E5a := Lib.hid (E4.out.alloc E4.out.size (.cells #[.string Ta] 9)); have D5a := Lib.hid (D4.out.alloc D4.out.size (.cells #[.string Ta] 9)); have KA := Lib.hid (Blk.new w4 9 #[.string Ta]);
             have E5b := Lib.hid (E4.out.alloc E4.out.size (.cells #[.string Tb] 9)); have D5b := Lib.hid (D4.out.alloc D4.out.size (.cells #[.string Tb] 9)); have KB := Lib.hid (Blk.new w4 9 #[.string Tb]);
             have E5c := Lib.hid (E5a.out.alloc E5a.out.size (.cells #[.string Tb] 9)); have D5c := Lib.hid (D5a.out.alloc D5a.out.size (.cells #[.string Tb] 9)); have KAc := Lib.hid (KA.out.alloc (.cells #[.string Tb] 9)); have KBc := Lib.hid (blk_new2 w4 9 #[.string Tb] (.cells #[.string Ta] 9));
             have E5d := Lib.hid (E5b.out.alloc E5b.out.size (.cells #[.string Ta] 9)); have D5d := Lib.hid (D5b.out.alloc D5b.out.size (.cells #[.string Ta] 9)); have KBd := Lib.hid (KB.out.alloc (.cells #[.string Ta] 9)); have KAd := Lib.hid (blk_new2 w4 9 #[.string Ta] (.cells #[.string Tb] 9)); clear hb4)
          | (go_at_call 34; with_reducible refine (OA.out _ _ D5a.out KA.out).mono ?_; rintro e w5 ⟨rfl, hb5⟩; have D5 := Lib.hid (D5a.out.trans (hb5.mono D5a.out.size)); have E5 := Lib.hid (E5a.out.trans (hb5.mono E5a.out.size)); have E5e := Lib.hid (E5.out.alloc E5.out.size (.cells #[.string Tb] 9)); have D5e := Lib.hid (D5.out.alloc D5.out.size (.cells #[.string Tb] 9)); have KB5 := Lib.hid (Blk.new w5 9 #[.string Tb]); clear hb5)
          | (go_at_call 34; with_reducible refine (OA.out _ _ D5c.out KAc.out).mono ?_; rintro e w5 ⟨rfl, hb5⟩; have D5e := Lib.hid (D5c.out.trans (hb5.mono D5c.out.size)); have E5e := Lib.hid (E5c.out.trans (hb5.mono E5c.out.size)); have KB5 := Lib.hid (KBc.out.below hb5); clear hb5)
          | (go_at_call 34; with_reducible refine (OA.out _ _ D5d.out KAd.out).mono ?_; rintro e w5 ⟨rfl, hb5⟩; have D5e := Lib.hid (D5d.out.trans (hb5.mono D5d.out.size)); have E5e := Lib.hid (E5d.out.trans (hb5.mono E5d.out.size)); have KB5 := Lib.hid (KBd.out.below hb5); clear hb5)
          | (go_at_call 34; with_reducible refine (OB.out _ _ D5e.out KB5.out).mono ?_; rintro e w6 ⟨rfl, hb6⟩; have D6 := Lib.hid (D5e.out.trans (hb6.mono D5e.out.size)); have E6 := Lib.hid (E5e.out.trans (hb6.mono E5e.out.size)); clear hb6))
      all_goals (
        have fi := twin_any (SLA3.out.below E6.out) (SLB.out.below E6.out) LNA.out LNB.out SA.out SB.out (LA.out _ D6.out)
        rcases hfv : firstT na nb with _ | ⟨x, y⟩
        all_goals (
          rw [hfv] at fi
          unfold firstV at fi
          have HFV := Lib.hid hfv
          have FI := Lib.hid fi
          clear hfv fi
          go_wp2_with (first | (go_at_call 59; refine FI.out.mono ?_; rintro e w7 ⟨rfl, hb7⟩; have B7 := Lib.hid (D6.out.trans (hb7.mono D6.out.size)); clear hb7))
          go_returns
          exact ⟨by rw [HO.out, HFV.out]; rfl, B7.out⟩))
    · have be : ((shaB Ta).toList == (shaB Tb).toList) = false := by rw [bytes_eqC]; exact decide_eq_false he
      have be2 : ((shaB Ta).toList != (shaB Tb).toList) = true := by rw [bne, be]; rfl
      have HO : Hid (OUT = none) := Lib.hid (by rw [HOUT.out, if_neg he])
      clear he OF HOUT
      generalize shaB Ta = Ha at *
      generalize shaB Tb = Hb at *
      go_region_held3 (fun W => W.cell? ⟨b1, o1, none⟩ = some (.string Ta) ∧ W.cell? ⟨b2, o2, none⟩ = some (.string Tb))
        (first | (with_reducible exact ST.out _ E3.out) | (with_reducible exact ST.out _ E4.out) | (with_reducible exact ST.out _ E5.out) | (with_reducible exact ST.out _ E5a.out) | (with_reducible exact ST.out _ E5b.out) | (with_reducible exact ST.out _ E5c.out) | (with_reducible exact ST.out _ E5d.out) | (with_reducible exact ST.out _ E5e.out) | (with_reducible exact ST.out _ E6.out))
        (first
          | (go_at_call 58; with_reducible refine (EQ.out _ D3.out).mono ?_; rintro e w4 ⟨rfl, hb4⟩; have D4 := Lib.hid (D3.out.trans (hb4.mono D3.out.size)); have E4 := Lib.hid (E3.out.trans (hb4.mono E3.out.size));
             have E5a := Lib.hid (E4.out.alloc E4.out.size (.cells #[.string Ta] 9)); have D5a := Lib.hid (D4.out.alloc D4.out.size (.cells #[.string Ta] 9)); have KA := Lib.hid (Blk.new w4 9 #[.string Ta]);
             have E5b := Lib.hid (E4.out.alloc E4.out.size (.cells #[.string Tb] 9)); have D5b := Lib.hid (D4.out.alloc D4.out.size (.cells #[.string Tb] 9)); have KB := Lib.hid (Blk.new w4 9 #[.string Tb]);
             have E5c := Lib.hid (E5a.out.alloc E5a.out.size (.cells #[.string Tb] 9)); have D5c := Lib.hid (D5a.out.alloc D5a.out.size (.cells #[.string Tb] 9)); have KAc := Lib.hid (KA.out.alloc (.cells #[.string Tb] 9)); have KBc := Lib.hid (blk_new2 w4 9 #[.string Tb] (.cells #[.string Ta] 9));
             have E5d := Lib.hid (E5b.out.alloc E5b.out.size (.cells #[.string Ta] 9)); have D5d := Lib.hid (D5b.out.alloc D5b.out.size (.cells #[.string Ta] 9)); have KBd := Lib.hid (KB.out.alloc (.cells #[.string Ta] 9)); have KAd := Lib.hid (blk_new2 w4 9 #[.string Ta] (.cells #[.string Tb] 9)); clear hb4)
          | (go_at_call 34; with_reducible refine (OA.out _ _ D5a.out KA.out).mono ?_; rintro e w5 ⟨rfl, hb5⟩; have D5 := Lib.hid (D5a.out.trans (hb5.mono D5a.out.size)); have E5 := Lib.hid (E5a.out.trans (hb5.mono E5a.out.size)); have E5e := Lib.hid (E5.out.alloc E5.out.size (.cells #[.string Tb] 9)); have D5e := Lib.hid (D5.out.alloc D5.out.size (.cells #[.string Tb] 9)); have KB5 := Lib.hid (Blk.new w5 9 #[.string Tb]); clear hb5)
          | (go_at_call 34; with_reducible refine (OA.out _ _ D5c.out KAc.out).mono ?_; rintro e w5 ⟨rfl, hb5⟩; have D5e := Lib.hid (D5c.out.trans (hb5.mono D5c.out.size)); have E5e := Lib.hid (E5c.out.trans (hb5.mono E5c.out.size)); have KB5 := Lib.hid (KBc.out.below hb5); clear hb5)
          | (go_at_call 34; with_reducible refine (OA.out _ _ D5d.out KAd.out).mono ?_; rintro e w5 ⟨rfl, hb5⟩; have D5e := Lib.hid (D5d.out.trans (hb5.mono D5d.out.size)); have E5e := Lib.hid (E5d.out.trans (hb5.mono E5d.out.size)); have KB5 := Lib.hid (KBd.out.below hb5); clear hb5)
          | (go_at_call 34; with_reducible refine (OB.out _ _ D5e.out KB5.out).mono ?_; rintro e w6 ⟨rfl, hb6⟩; have D6 := Lib.hid (D5e.out.trans (hb6.mono D5e.out.size)); have E6 := Lib.hid (E5e.out.trans (hb6.mono E5e.out.size)); clear hb6))
      all_goals (
        go_wp2_with fail
        go_returns
        exact ⟨by rw [HO.out]; rfl, D6.out⟩)
end Go.Proofs.YtfeonjiiijdibaaGreatDoor
