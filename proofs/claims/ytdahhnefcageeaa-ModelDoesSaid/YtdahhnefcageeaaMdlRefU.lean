/-
  The document's answer, package guillocheref14: pruned.
-/
import Derived.Test.YtdahhnefcageeaaMdlRefV
import Derived.Test.YtdahhnefcageeaaMdlKeep
import Derived.Deep.RegionHeld3
namespace Go.Proofs.Mdl
open Go.Proofs.Ytdahhnefcageeaa
def prunedM (M : Mod) : Mod := { M with all := M.all.filter (keptR M) }
theorem keptR_held {M : Mod} (hw : 1 ≤ M.w) {V : Ver} : keptR M V = true ↔ held M V := by
  rw [keptR_iff]
  constructor
  · rintro (h | h)
    · exact .inl (by omega)
    · exact h
  · exact .inr
theorem keptL_filter {M : Mod} (hw : 1 ≤ M.w) : ∀ {l : List Ver} {a : Int}, lastB a l = M.n - 1 → keptL M l = l.filter (keptR M)
  | [], _, _ => rfl
  | [v], a, h => by
    have h7 : v.b = M.n - 1 := h
    rw [keptL_cons, if_pos (by rfl), List.filter_cons, if_pos (keptR_iff.2 (.inl h7))]
    rfl
  | v :: u :: r, a, h => by
    have ih := keptL_filter hw (l := u :: r) (a := v.b) h
    rw [keptL_cons, List.filter_cons, ih]
    have h1 : keptV M (u :: r).isEmpty v = true ↔ held M v := keptV_false
    by_cases hv : held M v
    · rw [if_pos (h1.2 hv), if_pos ((keptR_held hw).2 hv)]
    · rw [if_neg (fun e => hv (h1.1 e)), if_neg (fun e => hv ((keptR_held hw).1 e))]
theorem prunedM_kept {M : Mod} (hw : 1 ≤ M.w) (h : lastB (-1) M.all = M.n - 1) : prunedM M = keptM M := by
  unfold prunedM keptM
  rw [keptL_filter hw h]
end Go.Proofs.Mdl
namespace Go.Proofs.Ytdahhnefcageeaa
open Go.RowKit Go.Proofs.Mdl
set_option linter.unusedVariables false
set_option linter.unusedSimpArgs false
theorem infoRV : (Try.prog.info? 74).map (fun i => (i.zero, i.size, i.bytes)) = some (some (.agg #[.int .i64 0, .slice none 0 0, .slice none 0 0, .int .i64 0]), 4, 64) := by kernel_rfl
set_option maxRecDepth 100000 in
set_option maxHeartbeats 4000000 in
theorem rpruned_any {N : Nat → Prop} {w : World} {v : Value} {M : Mod} (h : Md N w v M) (h1 : 1 ≤ M.w) (h2 : M.w ≤ 8) (h3 : 1 ≤ M.n) (h4 : M.n ≤ 1048576) (hl : M.all.length ≤ 2000) :
    Calls Try.prog 59 #[v] w fun e w' => ∃ v', e = .returned v' ∧ Md (fun b => N b ∨ w.heap.size ≤ b) w' v' (prunedM M) ∧ Below w.heap.size w w' := by
  obtain ⟨u, rfl, hv⟩ := h
  obtain ⟨A, c, rfl⟩ := hv.shape
  obtain ⟨z, hz⟩ : ∃ z, z = M.all.length := ⟨_, rfl⟩
  have HZ := Lib.hid hz
  obtain ⟨w2, g, p, hw, hg, hp, hb2, b1, b2⟩ := two_boxes w 37 37 #[.int .i64 M.w, .int .i64 M.n, .slice A M.all.length c] #[.int .i64 0, .int .i64 0, .slice none 0 0]
  have VL := Lib.hid ((hv.mono (N' := fun b => N b ∧ b < w.heap.size) (fun b h1 h2 => ⟨h1, h2⟩)).below hb2)
  rw [← hz] at VL b1 hw ⊢
  have BG := Lib.hid b1
  have BP := Lib.hid b2
  have HB2 := Lib.hid hb2
  have GW : Hid (w.heap.size ≤ g) := Lib.hid (by omega)
  have PW : Hid (w.heap.size ≤ p) := Lib.hid (by omega)
  have GP : Hid (¬ g = p) := Lib.hid (by omega)
  have z1 : z ≤ 2000 := by omega
  clear hv b1 b2 hb2 hz hl
  go_enter Try.func59, Try.ntmps59
  go_upto_region 1 with (fail)
  rw [← hw, ← hp, ← hg]
  clear hw hp hg
  go_upto_region 3 with (fail)
  go_loopw [3, 4] (fun vl vi wr => ∃ (k : Nat) (rs : List Raw), vi = .int .i64 (k : Int) ∧ k ≤ z ∧ Hid (rs.length ≤ k) ∧ Hid (wr.ownsRow w2.heap.size 74 4 vl rs.length (flatR rs)) ∧ Hid (Rv (fun b => N b ∧ b < w.heap.size) w2 rs ((M.all.take k).filter (keptR M))) ∧ Hid (Bl w2.heap.size w2 wr)) (fun _ vi _ => z - (intOf vi).toNat)
  case atStart => exact ⟨0, [], rfl, Nat.zero_le _, Lib.hid (Nat.le_refl _), Lib.hid ⟨rfl, .inl ⟨rfl, rfl⟩⟩, Lib.hid (by simpa using Rv.nil), Lib.hid (Bl.start w2)⟩
  case round =>
    obtain ⟨k, rs, rfl, hk, RL, OW, RV, BB⟩ := hrel
    obtain ⟨Ao, co, hv3⟩ := own_shape OW.out
    subst hv3
    have wk : IntKind.i64.wrap ((k : Int) + 1) = (k : Int) + 1 := IntWalk.i64_in _ (by omega)
    have BGr := Lib.hid (BG.out.below BB.out.1)
    have q2 := BGr.out.cell 2
    simp only [List.getElem?_toArray, List.getElem?_cons_succ, List.getElem?_cons_zero] at q2
    by_cases hlt : k < z
    · obtain ⟨V, hV⟩ : ∃ V, M.all[k]? = some V := ⟨_, List.getElem?_eq_getElem (by rw [← HZ.out]; exact hlt)⟩
      obtain ⟨b, o, c', ve, vc, he, hbl, hve, hvc, d0, d1, d2, d3⟩ := VL.out.at_ hV
      obtain ⟨Ae, ce, rfl⟩ := hve.toEs.shape
      obtain ⟨Ac, cc, rfl⟩ := hvc.toCs.shape
      rw [← HZ.out] at he
      simp only [Value.slice.injEq] at he
      obtain ⟨rfl, -, rfl⟩ := he
      have i1 : (k : Int) < (z : Int) := by omega
      have TK : Hid ((M.all.take (k + 1)).filter (keptR M) = (M.all.take k).filter (keptR M) ++ (if keptR M V then [V] else [])) := Lib.hid (by
        rw [List.take_add_one, hV, Option.toList_some, List.filter_append, List.filter_cons]
        rfl)
      have SH := Lib.hid (show Sh (fun b => N b ∧ b < w.heap.size) w2 ⟨V.b, .slice Ae V.e.length ce, .slice Ac V.c.length cc, V.p⟩ V from ⟨rfl, rfl, hve, hvc⟩)
      have ST : Hid (∀ W, Below w2.heap.size w2 W → W.cell? ⟨g, 0, none⟩ = some (.int .i64 M.w) ∧ W.cell? ⟨g, 1, none⟩ = some (.int .i64 M.n) ∧ W.cell? ⟨g, 2, none⟩ = some (.slice (some ⟨b, o, none⟩) z c) ∧ W.cell? ⟨b, o + k * 4, none⟩ = some (.int .i64 V.b) ∧ W.cell? ⟨b, o + k * 4 + 1, none⟩ = some (.slice Ae V.e.length ce) ∧ W.cell? ⟨b, o + k * 4 + 2, none⟩ = some (.slice Ac V.c.length cc) ∧ W.cell? ⟨b, o + k * 4 + 3, none⟩ = some (.int .i64 V.p)) := Lib.hid (fun W hW => by
        have BGW := BG.out.below hW
        exact ⟨by simpa using BGW.cell 0, by simpa using BGW.cell 1, by simpa using BGW.cell 2, (hW.cell (p := ⟨b, _, none⟩) hbl).trans d0, (hW.cell (p := ⟨b, _, none⟩) hbl).trans d1, (hW.cell (p := ⟨b, _, none⟩) hbl).trans d2, (hW.cell (p := ⟨b, _, none⟩) hbl).trans d3⟩)
      have KP := Lib.hid (fun W => rkept_any (w := W) (M := M) (V := V) (Au := some ⟨b, o, none⟩) (nu := z) (cu := c) (Ae := Ae) (ne := V.e.length) (ce := ce) (Ac := Ac) (nc := V.c.length) (cc := cc) h1 h2 h3 h4)
      have E0 : Hid (Below w2.heap.size w2 wr.drew) := Lib.hid (BB.out.drewN 1).1
      have F0 : Hid (Bl w2.heap.size w2 wr.drew) := Lib.hid (BB.out.drewN 1)
      have O0 : Hid (wr.drew.ownsRow w2.heap.size 74 4 (.slice Ao rs.length co) rs.length (flatR rs)) := Lib.hid (own_drewN OW.out 1)
      clear hV hve hvc hbl d0 d1 d2 d3
      rcases t6 : keptR M V with _ | _
      · rw [t6] at KP TK
        clear t6
        go_wp2_with fail
        go_region_held3 (fun W => W.cell? ⟨g, 0, none⟩ = some (.int .i64 M.w) ∧ W.cell? ⟨g, 1, none⟩ = some (.int .i64 M.n) ∧ W.cell? ⟨g, 2, none⟩ = some (.slice (some ⟨b, o, none⟩) z c) ∧ W.cell? ⟨b, o + k * 4, none⟩ = some (.int .i64 V.b) ∧ W.cell? ⟨b, o + k * 4 + 1, none⟩ = some (.slice Ae V.e.length ce) ∧ W.cell? ⟨b, o + k * 4 + 2, none⟩ = some (.slice Ac V.c.length cc) ∧ W.cell? ⟨b, o + k * 4 + 3, none⟩ = some (.int .i64 V.p))
          (first | (with_reducible exact ST.out _ E0.out) | (with_reducible exact ST.out _ E1.out))
          (first | (go_at_call 37; (with_reducible refine (KP.out _).mono ?_); rintro e w7 ⟨rfl, hb⟩; have F1 := Lib.hid (F0.out.call hb); have E1 := Lib.hid F1.out.1; have O1 := Lib.hid (own_below O0.out hb); clear hb))
        go_wp2_with fail
        refine ⟨⟨k + 1, rs, by go_num, by omega, Lib.hid (by have := RL.out; omega), O1, Lib.hid ?_, F1⟩, by simp [intOf]; omega⟩
        rw [TK.out]
        simpa using RV.out
      · rw [t6] at KP TK
        clear t6
        go_wp2_with fail
        go_region_held3 (fun W => W.cell? ⟨g, 0, none⟩ = some (.int .i64 M.w) ∧ W.cell? ⟨g, 1, none⟩ = some (.int .i64 M.n) ∧ W.cell? ⟨g, 2, none⟩ = some (.slice (some ⟨b, o, none⟩) z c) ∧ W.cell? ⟨b, o + k * 4, none⟩ = some (.int .i64 V.b) ∧ W.cell? ⟨b, o + k * 4 + 1, none⟩ = some (.slice Ae V.e.length ce) ∧ W.cell? ⟨b, o + k * 4 + 2, none⟩ = some (.slice Ac V.c.length cc) ∧ W.cell? ⟨b, o + k * 4 + 3, none⟩ = some (.int .i64 V.p))
          (first | (with_reducible exact ST.out _ E0.out) | (with_reducible exact ST.out _ E1.out))
          (first | (go_at_call 37; (with_reducible refine (KP.out _).mono ?_); rintro e w7 ⟨rfl, hb⟩; have F1 := Lib.hid (F0.out.call hb); have E1 := Lib.hid F1.out.1; have O1 := Lib.hid (own_below O0.out hb); clear hb))
        obtain ⟨r0, r1, r2, s0, s1, s2, s3⟩ := ST.out _ E1.out
        have BA := Lib.hid (F1.out.alloc (.cells #[.int .i64 V.b, .slice Ae V.e.length ce, .slice Ac V.c.length cc, .int .i64 V.p] 74))
        have NC := Lib.hid (new_cells w7 74 [.int .i64 V.b, .slice Ae V.e.length ce, .slice Ac V.c.length cc, .int .i64 V.p])
        have N1 : Hid (rs.length + 1 ≤ 1000000) := Lib.hid (by have := RL.out; omega)
        have OM : Hid (∀ y ∈ ([.int .i64 V.b, .slice Ae V.e.length ce, .slice Ac V.c.length cc, .int .i64 V.p] : List Value), y.oneCell' = true) := Lib.hid (by intro y hy; simp only [List.mem_cons, List.not_mem_nil, or_false] at hy; rcases hy with rfl | rfl | rfl | rfl <;> rfl)
        clear q2
        go_wp2_with (at_builtin; refine wpList_append_own (k := 4) (T := 74) (S := 35) elemRV infoRV rfl (by decide) (by decide) rfl _ _ rfl rfl w2.heap.size _ _ (flatR rs) w7.heap.size 0 1 1 [.int .i64 V.b, .slice Ae V.e.length ce, .slice Ac V.c.length cc, .int .i64 V.p] rfl rfl (World.ownsRow.alloc O1.out _) rfl NC.out OM.out N1.out BA.out.2 ?_; intro v5 wb own5 gr5 _; have b5 := BA.out.grownRow (World.ownsRow.alloc O1.out _) (Nat.le_refl _) gr5; have BE := Lib.hid b5; have OE := Lib.hid own5; clear own5 gr5 b5)
        refine ⟨⟨k + 1, rs ++ [⟨V.b, .slice Ae V.e.length ce, .slice Ac V.c.length cc, V.p⟩], by go_num, by omega, Lib.hid (by have := RL.out; simp; omega), Lib.hid ?_, Lib.hid ?_, BE⟩, by simp [intOf]; omega⟩
        · rw [flatR_append, List.length_append]
          exact OE.out
        · rw [TK.out]
          exact RV.out.append (Rv.single SH.out)
    · obtain rfl : k = z := by omega
      have i1 : ¬ (k : Int) < (k : Int) := by omega
      have TK : Hid ((M.all.take k).filter (keptR M) = (prunedM M).all) := Lib.hid (by rw [HZ.out, List.take_length]; rfl)
      have BPr := Lib.hid (BP.out.below BB.out.1)
      have BW := Lib.hid (((Bl.start w).call HB2.out).call BB.out.1)
      have f2 := BGr.out.frozen 2
      have q0 := BGr.out.cell 0
      have q1 := BGr.out.cell 1
      have p0 := BPr.out.cell 0
      have p1 := BPr.out.cell 1
      have p2 := BPr.out.cell 2
      have e0 := BPr.out.frozen 0
      have e1 := BPr.out.frozen 1
      have e2 := BPr.out.frozen 2
      simp only [List.getElem?_toArray, List.getElem?_cons_succ, List.getElem?_cons_zero] at q0 q1 p0 p1 p2
      go_upto_region 8 with (fail)
      have W1 := Lib.hid (BW.out.setCell (p := ⟨g, 2, none⟩) GW.out (.slice Ao rs.length co))
      have FG := Lib.hid ((Far.refl (fun i => i = g) wr).setCell (p := ⟨g, 2, none⟩) (fun _ => rfl) (.slice Ao rs.length co))
      have BG1 := Lib.hid (BGr.out.set 2 (.slice Ao rs.length co))
      simp only [List.setIfInBounds_toArray, List.set_cons_succ, List.set_cons_zero] at BG1
      have BP1 := Lib.hid (BPr.out.far FG.out (fun e => GP.out e.symm))
      generalize wr.setCell ⟨g, 2, none⟩ (.slice Ao rs.length co) = w8 at *
      clear q0 q1 q2 p0 p1 p2 e0 e1 e2 f2
      have q0 := BG1.out.cell 0
      have q1 := BG1.out.cell 1
      have q2 := BG1.out.cell 2
      have p0 := BP1.out.cell 0
      have p1 := BP1.out.cell 1
      have p2 := BP1.out.cell 2
      have e0 := BP1.out.frozen 0
      have e1 := BP1.out.frozen 1
      have e2 := BP1.out.frozen 2
      simp only [List.getElem?_toArray, List.getElem?_cons_succ, List.getElem?_cons_zero] at q0 q1 q2 p0 p1 p2
      go_wp2_with fail
      obtain ⟨W', hW', bw', ff', bp'⟩ := put3 BP1.out W1.out PW.out (.int .i64 M.w) (.int .i64 M.n) (.slice Ao rs.length co)
      rw [← hW']
      refine bodyPost_ret (results_r1 rfl _ _ _ rfl bp') rfl ?_
      have G2 := BG.out.lt
      have P2 := BP.out.lt
      have own8 := own_far OW.out FG.out (fun b hb e => by have e1 : b = g := e; have h9 := (OW.out.lt b hb).1; omega)
      have own9 := own_far own8 ff' (fun b hb e => by have e1 : b = p := e; have h9 := (own8.lt b hb).1; omega)
      have rv8 := (RV.out.below BB.out.1).far FG.out (fun b hb _ e => by have e1 : b = g := e; have := GW.out; have := hb.2; omega)
      have rv9 := rv8.far ff' (fun b hb _ e => by have e1 : b = p := e; have := PW.out; have := hb.2; omega)
      rw [TK.out] at rv9
      refine ⟨_, rfl, ⟨_, rfl, ?_⟩, bw'.1⟩
      rw [rv9.len] at own9
      rw [rv9.len]
      exact Vl.of_own own9 (rv9.mono (fun b hb _ => .inl hb.1)) (fun b hb => .inr (Nat.le_trans HB2.out.size hb))
end Go.Proofs.Ytdahhnefcageeaa
