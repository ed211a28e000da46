/-
  Merged: MdlRefW, MdlRefX.
-/
import Derived.Test.YtdahhnefcageeaaMdlRefU
import Derived.Test.YtdahhnefcageeaaMdlClone
import Derived.Test.YtdahhnefcageeaaMdlPin
import Derived.Test.YtdahhnefcageeaaMdlUnpin
import Derived.Lib.SmallJoins
import Derived.Laws.OwnMore
namespace Go.Proofs.Ytdahhnefcageeaa
open Go.RowKit Go.Proofs.Mdl
set_option linter.unusedVariables false
set_option linter.unusedSimpArgs false
set_option maxRecDepth 100000 in
set_option maxHeartbeats 4000000 in
theorem rpinned_any {N : Nat → Prop} {w : World} {v : Value} {M : Mod} {k : Nat} {V : Ver} {n : Int} (h : Md N w v M) (hk : M.all[k]? = some V) (hp : -1048577 ≤ V.p + n ∧ V.p + n ≤ 1048577) (h1 : 1 ≤ M.w) (h2 : M.w ≤ 8) (h3 : 1 ≤ M.n) (h4 : M.n ≤ 1048576) (hl : M.all.length ≤ 1000) :
    Calls Try.prog 60 #[v, .int .i64 (k : Int), .int .i64 n] w fun e w' => ∃ v', e = .returned v' ∧ Md (fun b => N b ∨ w.heap.size ≤ b) w' v' (prunedM { M with all := M.all.set k { V with p := V.p + n } }) ∧ Below w.heap.size w w' := by
  obtain ⟨u, rfl, hv⟩ := h
  obtain ⟨A, c, rs, rfl, hc, hvs, hrv⟩ := hv
  obtain ⟨z, hz⟩ : ∃ z, z = M.all.length := ⟨_, rfl⟩
  have HZ := Lib.hid hz
  have hkz : k < z := by rw [hz]; exact (List.getElem?_eq_some_iff.1 hk).1
  obtain ⟨r, hr, hsh⟩ := hrv.get hk
  obtain ⟨w2, g, p, hw, hg, hp2, hb2, b1, b2⟩ := two_boxes w 37 37 #[.int .i64 M.w, .int .i64 M.n, .slice A M.all.length c] #[.int .i64 0, .int .i64 0, .slice none 0 0]
  have RV := Lib.hid ((hrv.mono (N' := fun b => N b ∧ b < w.heap.size) (fun b h1 h2 => ⟨h1, h2⟩)).below hb2)
  have SH := Lib.hid ((hsh.mono (N' := fun b => N b ∧ b < w.heap.size) (fun b h1 h2 => ⟨h1, h2⟩)).below hb2)
  have VS := Lib.hid (hvs.vs.below hb2)
  have OM := Lib.hid (hrv.one)
  have RL : Hid (rs.length = z) := Lib.hid (by rw [hz]; exact hrv.len)
  have HR := Lib.hid hr
  have HK := Lib.hid hk
  rw [← hz] at b1 hw ⊢
  have BG := Lib.hid b1
  have BP := Lib.hid b2
  have HB2 := Lib.hid hb2
  have GW : Hid (w.heap.size ≤ g) := Lib.hid (by omega)
  have PW : Hid (w.heap.size ≤ p) := Lib.hid (by omega)
  have GP : Hid (¬ g = p) := Lib.hid (by omega)
  have z1 : z ≤ 1000 := by omega
  have vp : r.p = V.p := hsh.p
  have kz : (k : Int) < (z : Int) := by omega
  obtain ⟨q, hq⟩ : ∃ q, q = V.p + n := ⟨_, rfl⟩
  have wp : IntKind.i64.wrap (V.p + n) = q := by rw [hq]; exact IntWalk.i64_in _ (by omega)
  rw [← hq]
  have HP2 := Lib.hid hp2
  clear hvs hrv hsh b1 b2 hb2 hz hr hk hq hp hl hc
  have OW0 := Lib.hid (own_empty w2 74 4)
  have BB0 := Lib.hid ((Bl.start w2).alloc (.cells #[] 74))
  have LL : Hid ((flatR rs).length = z * 4) := Lib.hid (by rw [flatR_length, RL.out])
  have N1 : Hid (0 + z ≤ 1000000) := Lib.hid (by omega)
  have VV := Lib.hid (VS.out.below BB0.out.1)
  obtain ⟨K, hK⟩ : ∃ K, K = prunedM { M with all := M.all.set k { V with p := q } } := ⟨_, rfl⟩
  rw [← hK]
  have HKK := Lib.hid hK
  clear hK
  go_enter Try.func60, Try.ntmps60
  go_upto_region 1 with (fail)
  rw [← hw, ← hp2, ← hg]
  clear hw HP2 hg hp2
  have q2 := (BG.out.below BB0.out.1).cell 2
  simp only [List.getElem?_toArray, List.getElem?_cons_succ, List.getElem?_cons_zero] at q2
  have gl : g < w2.heap.size := BG.out.lt
  go_upto_region 2 with (at_builtin; refine wpList_append_shown (k := 4) (T := 74) (S := 35) elemRV infoRV rfl (by decide) (by decide) rfl _ _ rfl rfl w2.heap.size _ 0 [] A z c (flatR rs) rfl rfl OW0.out LL.out VV.out OM.out N1.out BB0.out.2 ?_; intro v5 wb own5 gr5 _; have b5 := BB0.out.grownRow OW0.out (Nat.le_refl _) gr5; have BE := Lib.hid b5; have OE := Lib.hid own5; clear own5 gr5 b5)
  have OE2 : Hid (wb.ownsRow w2.heap.size 74 4 v5 z (flatR rs)) := Lib.hid (by have := OE.out; rwa [Nat.zero_add, List.nil_append] at this)
  obtain ⟨rr, cap, hv5⟩ := Joins.ownsRow_form OE2.out (by omega)
  subst hv5
  have R2 : Hid (w2.heap.size ≤ rr) := Lib.hid (OE2.out.lt rr rfl).1
  have d3 : wb.cell? ⟨rr, k * 4 + 3, none⟩ = some (.int .i64 V.p) := by
    rw [OE2.out.cellAt _ (by omega), (flatR_at rs k r HR.out).2.2.2, vp]
  have f3 : wb.frozen? ⟨rr, k * 4 + 3, none⟩ = false := OE2.out.frozenAt _
  have BGb := Lib.hid (BG.out.below BE.out.1)
  have BPb := Lib.hid (BP.out.below BE.out.1)
  clear gl q2 OE VV LL N1 OW0 BB0
  go_upto_region 3 with (fail)
  obtain ⟨own6, _⟩ := OE2.out.stored (k * 4 + 3) (.int .i64 q)
  rw [flatR_setp rs k r q HR.out] at own6
  have FR := Lib.hid ((Far.refl (fun i => i = rr) wb).setCell (p := ⟨rr, k * 4 + 3, none⟩) (fun _ => rfl) (.int .i64 q))
  have OW6 := Lib.hid own6
  have BE6 := Lib.hid (BE.out.setCell (p := ⟨rr, k * 4 + 3, none⟩) R2.out (.int .i64 q))
  have GL := Lib.hid BG.out.lt
  have PL := Lib.hid BP.out.lt
  have BG6 := Lib.hid (BGb.out.far FR.out (fun e => by have e1 : g = rr := e; have := R2.out; have := GL.out; omega))
  have BP6 := Lib.hid (BPb.out.far FR.out (fun e => by have e1 : p = rr := e; have := R2.out; have := PL.out; omega))
  clear own6 d3 f3 FR OE2
  generalize wb.setCell ⟨rr, k * 4 + 3, none⟩ (.int .i64 q) = w6 at *
  have BW6 := Lib.hid (((Bl.start w).call HB2.out).call BE6.out.1)
  have q2 := BG6.out.cell 2
  have f2 := BG6.out.frozen 2
  simp only [List.getElem?_toArray, List.getElem?_cons_succ, List.getElem?_cons_zero] at q2
  go_upto_region 4 with (fail)
  have BW7 := Lib.hid (BW6.out.setCell (p := ⟨g, 2, none⟩) GW.out (.slice (some ⟨rr, 0, none⟩) z cap))
  have FG := Lib.hid ((Far.refl (fun i => i = g) w6).setCell (p := ⟨g, 2, none⟩) (fun _ => rfl) (.slice (some ⟨rr, 0, none⟩) z cap))
  have BG7 := Lib.hid (BG6.out.set 2 (.slice (some ⟨rr, 0, none⟩) z cap))
  simp only [List.setIfInBounds_toArray, List.set_cons_succ, List.set_cons_zero] at BG7
  have BP7 := Lib.hid (BP6.out.far FG.out (fun e => GP.out e.symm))
  have OW7 := Lib.hid (own_far OW6.out FG.out (fun b hb e => by have e1 : b = g := e; have h9 := (OW6.out.lt b hb).1; have := GL.out; omega))
  have SH2 : Hid (Sh (fun b => N b ∧ b < w.heap.size) w2 ⟨r.b, r.e, r.c, q⟩ { V with p := q }) := Lib.hid ⟨SH.out.b, rfl, SH.out.e, SH.out.c⟩
  have RV7 := Lib.hid (((RV.out.set k SH2.out).below BE6.out.1).far FG.out (fun b hb _ e => by have e1 : b = g := e; have := GW.out; have := hb.2; omega))
  generalize w6.setCell ⟨g, 2, none⟩ (.slice (some ⟨rr, 0, none⟩) z cap) = w7 at *
  clear q2 f2 BG6 BP6 BW6 OW6 FG BG BP BGb BPb BE6
  have LEN : Hid ((M.all.set k { V with p := q }).length = z) := Lib.hid (by rw [List.length_set]; exact HZ.out.symm)
  have MD7 : Hid (Md (fun b => (N b ∧ b < w.heap.size) ∨ w2.heap.size ≤ b) w7 (.agg #[.int .i64 M.w, .int .i64 M.n, .slice (some ⟨rr, 0, none⟩) z cap]) { M with all := M.all.set k { V with p := q } }) := Lib.hid ⟨_, rfl, by
    have h9 := OW7.out
    rw [← LEN.out] at h9 ⊢
    exact Vl.of_own h9 (RV7.out.mono (fun b hb _ => .inl hb)) (fun b hb => .inr hb)⟩
  have PR := Lib.hid (rpruned_any MD7.out h1 h2 h3 h4 (by rw [LEN.out]; omega))
  rw [← HKK.out] at PR
  clear MD7 RV7 OW7 SH2
  have q0 := BG7.out.cell 0
  have q1 := BG7.out.cell 1
  have q2 := BG7.out.cell 2
  simp only [List.getElem?_toArray, List.getElem?_cons_succ, List.getElem?_cons_zero] at q0 q1 q2
  go_wp2_with (go_at_call 59; refine PR.out.mono ?_; rintro e w8 ⟨v8, rfl, hmd, hb⟩; obtain ⟨u8, hv8, hvl⟩ := hmd; obtain ⟨A8, c8, hs8⟩ := hvl.shape; subst hs8; subst hv8; have VL8 := Lib.hid hvl; have BP8 := Lib.hid (BP7.out.below hb); have BW8 := Lib.hid (BW7.out.call hb); have SZ := Lib.hid hb.size; clear hb hvl q0 q1 q2; have p0 := BP8.out.cell 0; have p1 := BP8.out.cell 1; have p2 := BP8.out.cell 2; simp only [List.getElem?_toArray, List.getElem?_cons_succ, List.getElem?_cons_zero] at p0 p1 p2; have e0 := BP8.out.frozen 0; have e1 := BP8.out.frozen 1; have e2 := BP8.out.frozen 2)
  obtain ⟨W', hW', bw', ff', bp'⟩ := put3 BP8.out BW8.out PW.out (.int .i64 K.w) (.int .i64 K.n) (.slice A8 K.all.length c8)
  rw [← hW']
  refine bodyPost_ret (results_r1 rfl _ _ _ rfl bp') rfl ?_
  refine ⟨_, rfl, ⟨_, rfl, ?_⟩, bw'.1⟩
  refine (VL8.out.far ff' (fun b hb _ e => ?_)).mono (fun b hb _ => ?_)
  · have e1 : b = p := e
    have := PW.out
    have := PL.out
    have := BP7.out.lt
    have h9 : ((N b ∧ b < w.heap.size) ∨ w2.heap.size ≤ b) ∨ w7.heap.size ≤ b := hb
    omega
  · have h9 : ((N b ∧ b < w.heap.size) ∨ w2.heap.size ≤ b) ∨ w7.heap.size ≤ b := hb
    have := HB2.out.size
    have := BW7.out.2
    rcases h9 with (h9 | h9) | h9
    · exact .inl h9.1
    · exact .inr (by omega)
    · exact .inr (by omega)
end Go.Proofs.Ytdahhnefcageeaa
namespace Go.Proofs.Mdl
open Go.Proofs.Ytdahhnefcageeaa
set_option linter.unusedVariables false
set_option linter.unusedSimpArgs false
theorem valid_right {M : Mod} (h : validM M = true) : 1 ≤ M.w ∧ M.w ≤ 8 ∧ 1 ≤ M.n ∧ M.n ≤ 1048576 ∧ 0 < M.all.length := by
  unfold validM at h
  rw [Bool.and_eq_true] at h
  exact rightM_iff.1 h.1
theorem valid_last {M : Mod} (h : validM M = true) : lastB (-1) M.all = M.n - 1 := by
  have hr := valid_right h
  unfold validM at h
  rw [Bool.and_eq_true] at h
  exact ((vgo_iff hr.1).1 h.2).2.2
/-- A pin more lets nothing go. -/
theorem pruned_more {M : Mod} (h : validM M = true) {k : Nat} {V : Ver} (hV : M.all[k]? = some V) : prunedM { M with all := M.all.set k { V with p := V.p + 1 } } = { M with all := M.all.set k { V with p := V.p + 1 } } := by
  unfold prunedM
  congr 1
  refine List.filter_eq_self.2 (fun U hU => ?_)
  show keptR M U = true
  rcases set_mem hU with rfl | hU
  · have := (fine_of_valid h hV).2.2.2.1
    exact keptR_iff.2 (.inr (.inr (by show 0 < V.p + 1; omega)))
  · obtain ⟨j, hj⟩ := List.getElem?_of_mem hU
    exact (fine_of_valid h hj).2.2.2.2.2
theorem pruned_less {M : Mod} (h : validM M = true) {k : Nat} {V : Ver} (hV : M.all[k]? = some V) (q : Int) : prunedM { M with all := M.all.set k { V with p := q } } = keptM { M with all := M.all.set k { V with p := q } } :=
  prunedM_kept (M := { M with all := M.all.set k { V with p := q } }) (valid_right h).1 ((set_last (-1) q hV).trans (valid_last h))
end Go.Proofs.Mdl
namespace Go.Proofs.Ytdahhnefcageeaa
open Go.RowKit Go.Proofs.Mdl
set_option linter.unusedVariables false
set_option linter.unusedSimpArgs false
theorem back3T {N : Nat → Prop} {w W : World} {g p : Nat} {T : TypeId} {M : Mod} {u a0 a1 a2 : Value} (hM : Md N w (.agg #[.int .i64 M.w, .int .i64 M.n, u]) M) (BP : Blk W p T #[a0, a1, a2]) (BW : Bl w.heap.size w W) (hp : w.heap.size ≤ p) :
    ∃ W', W' = ((W.setCell ⟨p, 0, none⟩ (.int .i64 M.w)).setCell ⟨p, 1, none⟩ (.int .i64 M.n)).setCell ⟨p, 2, none⟩ u ∧ Blk W' p T #[.int .i64 M.w, .int .i64 M.n, u] ∧ Md (fun b => N b ∨ w.heap.size ≤ b) W' (.agg #[.int .i64 M.w, .int .i64 M.n, u]) M ∧ Below w.heap.size w W' := by
  obtain ⟨W', hW, bw, ff, bp⟩ := put3 BP BW hp (.int .i64 M.w) (.int .i64 M.n) u
  exact ⟨W', hW, bp, (hM.below bw.1).mono (fun b hb _ => .inl hb), bw.1⟩
set_option maxRecDepth 100000 in
set_option maxHeartbeats 4000000 in
theorem rpin_any {N : Nat → Prop} {w : World} {v : Value} {M : Mod} {b : Int} (h : Md N w v M) (hl : M.all.length ≤ 1000) (hle : ∀ V ∈ M.all, V.e.length ≤ 1000 ∧ V.c.length ≤ 1000) :
    Calls Try.prog 34 #[v, .int .i64 b] w fun e w' => ∃ v', e = .returned (.tuple #[v', .int .i64 (pinM M b).2.1, .int .i64 (pinM M b).2.2]) ∧ Md (fun b => N b ∨ w.heap.size ≤ b) w' v' (pinM M b).1 ∧ Below w.heap.size w w' := by
  suffices hs : Calls Try.prog 34 #[v, .int .i64 b] w fun e w' => ∃ v', e = .returned (.tuple #[v', .int .i64 (pinM M b).2.1, .int .i64 (pinM M b).2.2]) ∧ Md (fun b => (N b ∧ b < w.heap.size) ∨ w.heap.size ≤ b) w' v' (pinM M b).1 ∧ Below w.heap.size w w' from
    hs.mono (fun e w' ⟨v', h1, h2, h3⟩ => ⟨v', h1, h2.mono (fun b hb _ => hb.imp (fun x => x.1) id), h3⟩)
  have H : Hid (Md (fun b => N b ∧ b < w.heap.size) w v M) := Lib.hid (h.mono (fun b h1 h2 => ⟨h1, h2⟩))
  obtain ⟨u, rfl, hv⟩ := h
  obtain ⟨A, c, rfl⟩ := hv.shape
  obtain ⟨w2, g, p, hw, hg, hp, hb2, b1, b2⟩ := two_boxes w 37 37 #[.int .i64 M.w, .int .i64 M.n, .slice A M.all.length c] #[.int .i64 0, .int .i64 0, .slice none 0 0]
  have VD := Lib.hid (rvalid_any (H.out.below hb2) hl (fun V hV => (hle V hV).1))
  have BW := Lib.hid (Bl.call (Bl.start w) hb2)
  have BG := Lib.hid b1
  have BP := Lib.hid b2
  have GW : Hid (w.heap.size ≤ g) := Lib.hid (by omega)
  have PW : Hid (w.heap.size ≤ p) := Lib.hid (by omega)
  have GP : Hid (¬ g = p) := Lib.hid (by omega)
  have q0 := b1.cell 0
  have q1 := b1.cell 1
  have q2 := b1.cell 2
  simp only [List.getElem?_toArray, List.getElem?_cons_succ, List.getElem?_cons_zero] at q0 q1 q2
  clear b1 b2
  cases hvd : validM M with
  | false =>
    have HA : Hid (pinM M b = (M, 0, 1)) := Lib.hid (by unfold pinM; rw [hvd]; rfl)
    rw [hvd] at VD
    clear hvd hv
    go_enter Try.func34, Try.ntmps34
    go_upto_region 1 with (fail)
    rw [← hw, ← hp, ← hg]
    clear hw hp hg
    go_wp2_with (go_at_call 16; refine VD.out.mono ?_; rintro e w3 ⟨rfl, hb⟩; have BG3 := Lib.hid (BG.out.below hb); have BP3 := Lib.hid (BP.out.below hb); have BW3 := Lib.hid (BW.out.call hb); clear hb q0 q1 q2; have q0 := BG3.out.cell 0; have q1 := BG3.out.cell 1; have q2 := BG3.out.cell 2; have p0 := BP3.out.cell 0; have p1 := BP3.out.cell 1; have p2 := BP3.out.cell 2; simp only [List.getElem?_toArray, List.getElem?_cons_succ, List.getElem?_cons_zero] at q0 q1 q2 p0 p1 p2; have f0 := BP3.out.frozen 0; have f1 := BP3.out.frozen 1; have f2 := BP3.out.frozen 2)
    obtain ⟨W', hW', bp', hM', bl'⟩ := back3T (g := g) H.out BP3.out BW3.out PW.out
    rw [← hW']
    refine bodyPost_ret (results_r3 rfl _ _ _ rfl rfl rfl bp') rfl ?_
    exact ⟨.agg #[.int .i64 M.w, .int .i64 M.n, .slice A M.all.length c], by rw [HA.out]; rfl, by rw [HA.out]; exact hM', bl'⟩
  | true =>
    rw [hvd] at VD
    obtain ⟨r1, r2, r3, r4, r5⟩ := valid_right hvd
    have wn : IntKind.i64.wrap (M.n - 1) = M.n - 1 := IntWalk.i64_in _ (by omega)
    have hat : (b = -1 ∧ pinAt M b = M.n - 1) ∨ ((b == -1) = false ∧ pinAt M b = b) := by
      by_cases e : b = -1
      · exact .inl ⟨e, if_pos e⟩
      · exact .inr ⟨beq_eq_false_iff_ne.2 e, if_neg e⟩
    have FN := Lib.hid (fun W (hW : Below w.heap.size w W) => rfind_any (blk := pinAt M b) (H.out.below hW) hl)
    cases hi : idxB M.all (pinAt M b) with
    | none =>
      have HA : Hid (pinM M b = (M, 0, 4)) := Lib.hid (by unfold pinM; rw [hvd, hi]; rfl)
      rw [hi] at FN
      simp only [idxI] at FN
      clear hvd hi hv
      rcases hat with ⟨rfl, hpa⟩ | ⟨hne, hpa⟩
      all_goals (
        rw [hpa] at FN
        go_enter Try.func34, Try.ntmps34
        go_upto_region 1 with (fail)
        rw [← hw, ← hp, ← hg]
        clear hw hp hg
        go_wp2_with (first
          | (go_at_call 16; refine VD.out.mono ?_; rintro e w3 ⟨rfl, hb⟩; have BG3 := Lib.hid (BG.out.below hb); have BP3 := Lib.hid (BP.out.below hb); have BW3 := Lib.hid (BW.out.call hb); clear hb q0 q1 q2; have q0 := BG3.out.cell 0; have q1 := BG3.out.cell 1; have q2 := BG3.out.cell 2; have p0 := BP3.out.cell 0; have p1 := BP3.out.cell 1; have p2 := BP3.out.cell 2; simp only [List.getElem?_toArray, List.getElem?_cons_succ, List.getElem?_cons_zero] at q0 q1 q2 p0 p1 p2; have f0 := BP3.out.frozen 0; have f1 := BP3.out.frozen 1; have f2 := BP3.out.frozen 2)
          | (go_at_call 42; refine (FN.out _ BW3.out.1).mono ?_; rintro e w4 ⟨rfl, hb⟩; have BG4 := Lib.hid (BG3.out.below hb); have BP4 := Lib.hid (BP3.out.below hb); have BW4 := Lib.hid (BW3.out.call hb); clear hb q0 q1 q2 p0 p1 p2 f0 f1 f2; have q0 := BG4.out.cell 0; have q1 := BG4.out.cell 1; have q2 := BG4.out.cell 2; have p0 := BP4.out.cell 0; have p1 := BP4.out.cell 1; have p2 := BP4.out.cell 2; simp only [List.getElem?_toArray, List.getElem?_cons_succ, List.getElem?_cons_zero] at q0 q1 q2 p0 p1 p2; have f0 := BP4.out.frozen 0; have f1 := BP4.out.frozen 1; have f2 := BP4.out.frozen 2))
        obtain ⟨W', hW', bp', hM', bl'⟩ := back3T (g := g) H.out BP4.out BW4.out PW.out
        rw [← hW']
        refine bodyPost_ret (results_r3 rfl _ _ _ rfl rfl rfl bp') rfl ?_
        exact ⟨.agg #[.int .i64 M.w, .int .i64 M.n, .slice A M.all.length c], by rw [HA.out]; rfl, by rw [HA.out]; exact hM', bl'⟩)
    | some k =>
      rw [hi] at FN
      obtain ⟨V, hV, hVb⟩ := idxB_get hi
      have hkl : k < M.all.length := (List.getElem?_eq_some_iff.1 hV).1
      obtain ⟨bb, oo, cc, ve, vc, he, hbl, _, _, _, _, _, d3⟩ := hv.at_ hV
      simp only [Value.slice.injEq] at he
      obtain ⟨rfl, -, rfl⟩ := he
      have VP : Hid (∀ W, Below w.heap.size w W → W.cell? ⟨bb, oo + k * 4 + 3, none⟩ = some (.int .i64 V.p)) := Lib.hid (fun W hW => (hW.cell (p := ⟨bb, _, none⟩) hbl).trans d3)
      simp only [idxI] at FN
      have ik : (k : Int) < (M.all.length : Int) := by omega
      have ik0 : ¬ (k : Int) < 0 := by omega
      obtain ⟨_, _, _, f4, f5, _⟩ := fine_of_valid hvd hV
      by_cases hfull : V.p = 1048576
      · have HA : Hid (pinM M b = (M, 0, 12)) := Lib.hid (by unfold pinM; rw [hvd, hi]; simp only [if_true]; rw [hV]; simp only; rw [if_pos hfull])
        rw [hfull] at VP
        clear hvd hi hV hVb hv d3 hfull f4 f5
        rcases hat with ⟨rfl, hpa⟩ | ⟨hne, hpa⟩
        all_goals (
          rw [hpa] at FN
          go_enter Try.func34, Try.ntmps34
          go_upto_region 1 with (fail)
          rw [← hw, ← hp, ← hg]
          clear hw hp hg
          go_wp2_with (first
            | (go_at_call 16; refine VD.out.mono ?_; rintro e w3 ⟨rfl, hb⟩; have BG3 := Lib.hid (BG.out.below hb); have BP3 := Lib.hid (BP.out.below hb); have BW3 := Lib.hid (BW.out.call hb); clear hb q0 q1 q2; have q0 := BG3.out.cell 0; have q1 := BG3.out.cell 1; have q2 := BG3.out.cell 2; have p0 := BP3.out.cell 0; have p1 := BP3.out.cell 1; have p2 := BP3.out.cell 2; simp only [List.getElem?_toArray, List.getElem?_cons_succ, List.getElem?_cons_zero] at q0 q1 q2 p0 p1 p2; have f0 := BP3.out.frozen 0; have f1 := BP3.out.frozen 1; have f2 := BP3.out.frozen 2)
            | (go_at_call 42; refine (FN.out _ BW3.out.1).mono ?_; rintro e w4 ⟨rfl, hb⟩; have BG4 := Lib.hid (BG3.out.below hb); have BP4 := Lib.hid (BP3.out.below hb); have BW4 := Lib.hid (BW3.out.call hb); clear hb q0 q1 q2 p0 p1 p2 f0 f1 f2; have q0 := BG4.out.cell 0; have q1 := BG4.out.cell 1; have q2 := BG4.out.cell 2; have p0 := BP4.out.cell 0; have p1 := BP4.out.cell 1; have p2 := BP4.out.cell 2; simp only [List.getElem?_toArray, List.getElem?_cons_succ, List.getElem?_cons_zero] at q0 q1 q2 p0 p1 p2; have f0 := BP4.out.frozen 0; have f1 := BP4.out.frozen 1; have f2 := BP4.out.frozen 2; have d3 := VP.out _ BW4.out.1))
          obtain ⟨W', hW', bp', hM', bl'⟩ := back3T (g := g) H.out BP4.out BW4.out PW.out
          rw [← hW']
          refine bodyPost_ret (results_r3 rfl _ _ _ rfl rfl rfl bp') rfl ?_
          exact ⟨.agg #[.int .i64 M.w, .int .i64 M.n, .slice (some ⟨bb, oo, none⟩) M.all.length c], by rw [HA.out]; rfl, by rw [HA.out]; exact hM', bl'⟩)
      · have hnf : (V.p == 1048576) = false := beq_eq_false_iff_ne.2 hfull
        obtain ⟨K, hK⟩ : ∃ K, K = prunedM { M with all := M.all.set k { V with p := V.p + 1 } } := ⟨_, rfl⟩
        have HA : Hid (pinM M b = (K, pinAt M b, 0)) := Lib.hid (by rw [hK, pruned_more hvd hV, ← hVb]; unfold pinM; rw [hvd, hVb, hi]; simp only [if_true]; rw [hV]; simp only; rw [if_neg hfull]; simp [hVb])
        have PN := Lib.hid (fun W (hW : Below w.heap.size w W) => rpinned_any (n := 1) (H.out.below hW) hV (by omega) r1 r2 r3 r4 hl)
        rw [← hK] at PN
        clear hK hvd hi hV hVb hv d3 f4 f5
        rcases hat with ⟨rfl, hpa⟩ | ⟨hne, hpa⟩
        all_goals (
          rw [hpa] at FN HA
          go_enter Try.func34, Try.ntmps34
          go_upto_region 1 with (fail)
          rw [← hw, ← hp, ← hg]
          clear hw hp hg
          go_wp2_with (first
            | (go_at_call 16; refine VD.out.mono ?_; rintro e w3 ⟨rfl, hb⟩; have BG3 := Lib.hid (BG.out.below hb); have BP3 := Lib.hid (BP.out.below hb); have BW3 := Lib.hid (BW.out.call hb); clear hb q0 q1 q2; have q0 := BG3.out.cell 0; have q1 := BG3.out.cell 1; have q2 := BG3.out.cell 2; have p0 := BP3.out.cell 0; have p1 := BP3.out.cell 1; have p2 := BP3.out.cell 2; simp only [List.getElem?_toArray, List.getElem?_cons_succ, List.getElem?_cons_zero] at q0 q1 q2 p0 p1 p2; have f0 := BP3.out.frozen 0; have f1 := BP3.out.frozen 1; have f2 := BP3.out.frozen 2)
            | (go_at_call 42; refine (FN.out _ BW3.out.1).mono ?_; rintro e w4 ⟨rfl, hb⟩; have BG4 := Lib.hid (BG3.out.below hb); have BP4 := Lib.hid (BP3.out.below hb); have BW4 := Lib.hid (BW3.out.call hb); clear hb q0 q1 q2 p0 p1 p2 f0 f1 f2; have q0 := BG4.out.cell 0; have q1 := BG4.out.cell 1; have q2 := BG4.out.cell 2; have p0 := BP4.out.cell 0; have p1 := BP4.out.cell 1; have p2 := BP4.out.cell 2; simp only [List.getElem?_toArray, List.getElem?_cons_succ, List.getElem?_cons_zero] at q0 q1 q2 p0 p1 p2; have f0 := BP4.out.frozen 0; have f1 := BP4.out.frozen 1; have f2 := BP4.out.frozen 2; have d3 := VP.out _ BW4.out.1)
            | (go_at_call 60; refine (PN.out _ BW4.out.1).mono ?_; rintro e w5 ⟨v5, rfl, hmd, hb⟩; obtain ⟨u5, hv5, hvl⟩ := hmd; obtain ⟨A5, c5, hs5⟩ := hvl.shape; subst hs5; subst hv5; have VL5 := Lib.hid hvl; have BG5 := Lib.hid (BG4.out.below hb); have BP5 := Lib.hid (BP4.out.below hb); have BW5 := Lib.hid (BW4.out.call hb); clear hb hvl q0 q1 q2 p0 p1 p2 f0 f1 f2; have q0 := BG5.out.cell 0; have q1 := BG5.out.cell 1; have q2 := BG5.out.cell 2; have p0 := BP5.out.cell 0; have p1 := BP5.out.cell 1; have p2 := BP5.out.cell 2; simp only [List.getElem?_toArray, List.getElem?_cons_succ, List.getElem?_cons_zero] at q0 q1 q2 p0 p1 p2; have f0 := BP5.out.frozen 0; have f1 := BP5.out.frozen 1; have f2 := BP5.out.frozen 2))
          obtain ⟨W', hW', bw', ff', bp'⟩ := put3 BP5.out BW5.out PW.out (.int .i64 K.w) (.int .i64 K.n) (.slice A5 K.all.length c5)
          rw [← hW']
          refine bodyPost_ret (results_r3 rfl _ _ _ rfl rfl rfl bp') rfl ?_
          refine ⟨.agg #[.int .i64 K.w, .int .i64 K.n, .slice A5 K.all.length c5], by rw [HA.out]; rfl, ?_, bw'.1⟩
          rw [HA.out]
          refine ⟨_, rfl, (VL5.out.far ff' (fun b hb _ e => ?_)).mono (fun b hb _ => ?_)⟩
          · have e1 : b = p := e
            have := BP4.out.lt
            have := PW.out
            have h9 : (N b ∧ b < w.heap.size) ∨ w4.heap.size ≤ b := hb
            omega
          · have h9 : (N b ∧ b < w.heap.size) ∨ w4.heap.size ≤ b := hb
            have := BW4.out.2
            rcases h9 with h9 | h9
            · exact .inl h9
            · exact .inr (by omega))
set_option maxRecDepth 100000 in
set_option maxHeartbeats 4000000 in
theorem runpin_any {N : Nat → Prop} {w : World} {v : Value} {M : Mod} {b : Int} (h : Md N w v M) (hl : M.all.length ≤ 1000) (hle : ∀ V ∈ M.all, V.e.length ≤ 1000 ∧ V.c.length ≤ 1000) :
    Calls Try.prog 35 #[v, .int .i64 b] w fun e w' => ∃ v', e = .returned (.tuple #[v', .int .i64 (unpinM M b).2]) ∧ Md (fun b => N b ∨ w.heap.size ≤ b) w' v' (unpinM M b).1 ∧ Below w.heap.size w w' := by
  suffices hs : Calls Try.prog 35 #[v, .int .i64 b] w fun e w' => ∃ v', e = .returned (.tuple #[v', .int .i64 (unpinM M b).2]) ∧ Md (fun b => (N b ∧ b < w.heap.size) ∨ w.heap.size ≤ b) w' v' (unpinM M b).1 ∧ Below w.heap.size w w' from
    hs.mono (fun e w' ⟨v', h1, h2, h3⟩ => ⟨v', h1, h2.mono (fun b hb _ => hb.imp (fun x => x.1) id), h3⟩)
  have H : Hid (Md (fun b => N b ∧ b < w.heap.size) w v M) := Lib.hid (h.mono (fun b h1 h2 => ⟨h1, h2⟩))
  obtain ⟨u, rfl, hv⟩ := h
  obtain ⟨A, c, rfl⟩ := hv.shape
  obtain ⟨w2, g, p, hw, hg, hp, hb2, b1, b2⟩ := two_boxes w 37 37 #[.int .i64 M.w, .int .i64 M.n, .slice A M.all.length c] #[.int .i64 0, .int .i64 0, .slice none 0 0]
  have VD := Lib.hid (rvalid_any (H.out.below hb2) hl (fun V hV => (hle V hV).1))
  have BW := Lib.hid (Bl.call (Bl.start w) hb2)
  have BG := Lib.hid b1
  have BP := Lib.hid b2
  have GW : Hid (w.heap.size ≤ g) := Lib.hid (by omega)
  have PW : Hid (w.heap.size ≤ p) := Lib.hid (by omega)
  have GP : Hid (¬ g = p) := Lib.hid (by omega)
  have q0 := b1.cell 0
  have q1 := b1.cell 1
  have q2 := b1.cell 2
  simp only [List.getElem?_toArray, List.getElem?_cons_succ, List.getElem?_cons_zero] at q0 q1 q2
  clear b1 b2
  cases hvd : validM M with
  | false =>
    have HA : Hid (unpinM M b = (M, 1)) := Lib.hid (by unfold unpinM; rw [hvd]; rfl)
    rw [hvd] at VD
    clear hvd hv
    go_enter Try.func35, Try.ntmps35
    go_upto_region 1 with (fail)
    rw [← hw, ← hp, ← hg]
    clear hw hp hg
    go_wp2_with (go_at_call 16; refine VD.out.mono ?_; rintro e w3 ⟨rfl, hb⟩; have BG3 := Lib.hid (BG.out.below hb); have BP3 := Lib.hid (BP.out.below hb); have BW3 := Lib.hid (BW.out.call hb); clear hb q0 q1 q2; have q0 := BG3.out.cell 0; have q1 := BG3.out.cell 1; have q2 := BG3.out.cell 2; have p0 := BP3.out.cell 0; have p1 := BP3.out.cell 1; have p2 := BP3.out.cell 2; simp only [List.getElem?_toArray, List.getElem?_cons_succ, List.getElem?_cons_zero] at q0 q1 q2 p0 p1 p2; have f0 := BP3.out.frozen 0; have f1 := BP3.out.frozen 1; have f2 := BP3.out.frozen 2)
    obtain ⟨W', hW', bp', hM', bl'⟩ := back3T (g := g) H.out BP3.out BW3.out PW.out
    rw [← hW']
    refine bodyPost_ret (results_r2 rfl _ _ _ rfl rfl bp') rfl ?_
    exact ⟨.agg #[.int .i64 M.w, .int .i64 M.n, .slice A M.all.length c], by rw [HA.out]; rfl, by rw [HA.out]; exact hM', bl'⟩
  | true =>
    rw [hvd] at VD
    obtain ⟨r1, r2, r3, r4, r5⟩ := valid_right hvd
    have FN := Lib.hid (fun W (hW : Below w.heap.size w W) => rfind_any (blk := b) (H.out.below hW) hl)
    cases hi : idxB M.all b with
    | none =>
      have HA : Hid (unpinM M b = (M, 4)) := Lib.hid (by unfold unpinM; rw [hvd, hi]; rfl)
      rw [hi] at FN
      simp only [idxI] at FN
      clear hvd hi hv
      go_enter Try.func35, Try.ntmps35
      go_upto_region 1 with (fail)
      rw [← hw, ← hp, ← hg]
      clear hw hp hg
      go_wp2_with (first
        | (go_at_call 16; refine VD.out.mono ?_; rintro e w3 ⟨rfl, hb⟩; have BG3 := Lib.hid (BG.out.below hb); have BP3 := Lib.hid (BP.out.below hb); have BW3 := Lib.hid (BW.out.call hb); clear hb q0 q1 q2; have q0 := BG3.out.cell 0; have q1 := BG3.out.cell 1; have q2 := BG3.out.cell 2; have p0 := BP3.out.cell 0; have p1 := BP3.out.cell 1; have p2 := BP3.out.cell 2; simp only [List.getElem?_toArray, List.getElem?_cons_succ, List.getElem?_cons_zero] at q0 q1 q2 p0 p1 p2; have f0 := BP3.out.frozen 0; have f1 := BP3.out.frozen 1; have f2 := BP3.out.frozen 2)
        | (go_at_call 42; refine (FN.out _ BW3.out.1).mono ?_; rintro e w4 ⟨rfl, hb⟩; have BG4 := Lib.hid (BG3.out.below hb); have BP4 := Lib.hid (BP3.out.below hb); have BW4 := Lib.hid (BW3.out.call hb); clear hb q0 q1 q2 p0 p1 p2 f0 f1 f2; have q0 := BG4.out.cell 0; have q1 := BG4.out.cell 1; have q2 := BG4.out.cell 2; have p0 := BP4.out.cell 0; have p1 := BP4.out.cell 1; have p2 := BP4.out.cell 2; simp only [List.getElem?_toArray, List.getElem?_cons_succ, List.getElem?_cons_zero] at q0 q1 q2 p0 p1 p2; have f0 := BP4.out.frozen 0; have f1 := BP4.out.frozen 1; have f2 := BP4.out.frozen 2))
      obtain ⟨W', hW', bp', hM', bl'⟩ := back3T (g := g) H.out BP4.out BW4.out PW.out
      rw [← hW']
      refine bodyPost_ret (results_r2 rfl _ _ _ rfl rfl bp') rfl ?_
      exact ⟨.agg #[.int .i64 M.w, .int .i64 M.n, .slice A M.all.length c], by rw [HA.out]; rfl, by rw [HA.out]; exact hM', bl'⟩
    | some k =>
      rw [hi] at FN
      obtain ⟨V, hV, hVb⟩ := idxB_get hi
      have hkl : k < M.all.length := (List.getElem?_eq_some_iff.1 hV).1
      obtain ⟨bb, oo, cc, ve, vc, he, hbl, _, _, _, _, _, d3⟩ := hv.at_ hV
      simp only [Value.slice.injEq] at he
      obtain ⟨rfl, -, rfl⟩ := he
      have VP : Hid (∀ W, Below w.heap.size w W → W.cell? ⟨bb, oo + k * 4 + 3, none⟩ = some (.int .i64 V.p)) := Lib.hid (fun W hW => (hW.cell (p := ⟨bb, _, none⟩) hbl).trans d3)
      simp only [idxI] at FN
      have ik : (k : Int) < (M.all.length : Int) := by omega
      have ik0 : ¬ (k : Int) < 0 := by omega
      obtain ⟨_, _, _, f4, f5, _⟩ := fine_of_valid hvd hV
      by_cases hz : V.p = 0
      · have HA : Hid (unpinM M b = (M, 4)) := Lib.hid (by unfold unpinM; rw [hvd, hi]; simp only [if_true]; rw [hV]; simp only; rw [if_pos hz])
        rw [hz] at VP
        clear hvd hi hV hVb hv d3 hz f4 f5
        go_enter Try.func35, Try.ntmps35
        go_upto_region 1 with (fail)
        rw [← hw, ← hp, ← hg]
        clear hw hp hg
        go_wp2_with (first
          | (go_at_call 16; refine VD.out.mono ?_; rintro e w3 ⟨rfl, hb⟩; have BG3 := Lib.hid (BG.out.below hb); have BP3 := Lib.hid (BP.out.below hb); have BW3 := Lib.hid (BW.out.call hb); clear hb q0 q1 q2; have q0 := BG3.out.cell 0; have q1 := BG3.out.cell 1; have q2 := BG3.out.cell 2; have p0 := BP3.out.cell 0; have p1 := BP3.out.cell 1; have p2 := BP3.out.cell 2; simp only [List.getElem?_toArray, List.getElem?_cons_succ, List.getElem?_cons_zero] at q0 q1 q2 p0 p1 p2; have f0 := BP3.out.frozen 0; have f1 := BP3.out.frozen 1; have f2 := BP3.out.frozen 2)
          | (go_at_call 42; refine (FN.out _ BW3.out.1).mono ?_; rintro e w4 ⟨rfl, hb⟩; have BG4 := Lib.hid (BG3.out.below hb); have BP4 := Lib.hid (BP3.out.below hb); have BW4 := Lib.hid (BW3.out.call hb); clear hb q0 q1 q2 p0 p1 p2 f0 f1 f2; have q0 := BG4.out.cell 0; have q1 := BG4.out.cell 1; have q2 := BG4.out.cell 2; have p0 := BP4.out.cell 0; have p1 := BP4.out.cell 1; have p2 := BP4.out.cell 2; simp only [List.getElem?_toArray, List.getElem?_cons_succ, List.getElem?_cons_zero] at q0 q1 q2 p0 p1 p2; have f0 := BP4.out.frozen 0; have f1 := BP4.out.frozen 1; have f2 := BP4.out.frozen 2; have d3 := VP.out _ BW4.out.1))
        obtain ⟨W', hW', bp', hM', bl'⟩ := back3T (g := g) H.out BP4.out BW4.out PW.out
        rw [← hW']
        refine bodyPost_ret (results_r2 rfl _ _ _ rfl rfl bp') rfl ?_
        exact ⟨.agg #[.int .i64 M.w, .int .i64 M.n, .slice (some ⟨bb, oo, none⟩) M.all.length c], by rw [HA.out]; rfl, by rw [HA.out]; exact hM', bl'⟩
      · have hnf : (V.p == 0) = false := beq_eq_false_iff_ne.2 hz
        obtain ⟨K, hK⟩ : ∃ K, K = prunedM { M with all := M.all.set k { V with p := V.p + -1 } } := ⟨_, rfl⟩
        have HA : Hid (unpinM M b = (K, 0)) := Lib.hid (by rw [hK, pruned_less hvd hV]; unfold unpinM; rw [hvd, hi]; simp only [if_true]; rw [hV]; simp only; rw [if_neg hz]; rfl)
        have PN := Lib.hid (fun W (hW : Below w.heap.size w W) => rpinned_any (n := -1) (H.out.below hW) hV (by omega) r1 r2 r3 r4 hl)
        rw [← hK] at PN
        clear hK hvd hi hV hVb hv d3 f4 f5
        go_enter Try.func35, Try.ntmps35
        go_upto_region 1 with (fail)
        rw [← hw, ← hp, ← hg]
        clear hw hp hg
        go_wp2_with (first
          | (go_at_call 16; refine VD.out.mono ?_; rintro e w3 ⟨rfl, hb⟩; have BG3 := Lib.hid (BG.out.below hb); have BP3 := Lib.hid (BP.out.below hb); have BW3 := Lib.hid (BW.out.call hb); clear hb q0 q1 q2; have q0 := BG3.out.cell 0; have q1 := BG3.out.cell 1; have q2 := BG3.out.cell 2; have p0 := BP3.out.cell 0; have p1 := BP3.out.cell 1; have p2 := BP3.out.cell 2; simp only [List.getElem?_toArray, List.getElem?_cons_succ, List.getElem?_cons_zero] at q0 q1 q2 p0 p1 p2; have f0 := BP3.out.frozen 0; have f1 := BP3.out.frozen 1; have f2 := BP3.out.frozen 2)
          | (go_at_call 42; refine (FN.out _ BW3.out.1).mono ?_; rintro e w4 ⟨rfl, hb⟩; have BG4 := Lib.hid (BG3.out.below hb); have BP4 := Lib.hid (BP3.out.below hb); have BW4 := Lib.hid (BW3.out.call hb); clear hb q0 q1 q2 p0 p1 p2 f0 f1 f2; have q0 := BG4.out.cell 0; have q1 := BG4.out.cell 1; have q2 := BG4.out.cell 2; have p0 := BP4.out.cell 0; have p1 := BP4.out.cell 1; have p2 := BP4.out.cell 2; simp only [List.getElem?_toArray, List.getElem?_cons_succ, List.getElem?_cons_zero] at q0 q1 q2 p0 p1 p2; have f0 := BP4.out.frozen 0; have f1 := BP4.out.frozen 1; have f2 := BP4.out.frozen 2; have d3 := VP.out _ BW4.out.1)
          | (go_at_call 60; refine (PN.out _ BW4.out.1).mono ?_; rintro e w5 ⟨v5, rfl, hmd, hb⟩; obtain ⟨u5, hv5, hvl⟩ := hmd; obtain ⟨A5, c5, hs5⟩ := hvl.shape; subst hs5; subst hv5; have VL5 := Lib.hid hvl; have BG5 := Lib.hid (BG4.out.below hb); have BP5 := Lib.hid (BP4.out.below hb); have BW5 := Lib.hid (BW4.out.call hb); clear hb hvl q0 q1 q2 p0 p1 p2 f0 f1 f2; have q0 := BG5.out.cell 0; have q1 := BG5.out.cell 1; have q2 := BG5.out.cell 2; have p0 := BP5.out.cell 0; have p1 := BP5.out.cell 1; have p2 := BP5.out.cell 2; simp only [List.getElem?_toArray, List.getElem?_cons_succ, List.getElem?_cons_zero] at q0 q1 q2 p0 p1 p2; have f0 := BP5.out.frozen 0; have f1 := BP5.out.frozen 1; have f2 := BP5.out.frozen 2))
        obtain ⟨W', hW', bw', ff', bp'⟩ := put3 BP5.out BW5.out PW.out (.int .i64 K.w) (.int .i64 K.n) (.slice A5 K.all.length c5)
        rw [← hW']
        refine bodyPost_ret (results_r2 rfl _ _ _ rfl rfl bp') rfl ?_
        refine ⟨.agg #[.int .i64 K.w, .int .i64 K.n, .slice A5 K.all.length c5], by rw [HA.out]; rfl, ?_, bw'.1⟩
        rw [HA.out]
        refine ⟨_, rfl, (VL5.out.far ff' (fun b hb _ e => ?_)).mono (fun b hb _ => ?_)⟩
        · have e1 : b = p := e
          have := BP4.out.lt
          have := PW.out
          have h9 : (N b ∧ b < w.heap.size) ∨ w4.heap.size ≤ b := hb
          omega
        · have h9 : (N b ∧ b < w.heap.size) ∨ w4.heap.size ≤ b := hb
          have := BW4.out.2
          rcases h9 with h9 | h9
          · exact .inl h9
          · exact .inr (by omega)
end Go.Proofs.Ytdahhnefcageeaa
