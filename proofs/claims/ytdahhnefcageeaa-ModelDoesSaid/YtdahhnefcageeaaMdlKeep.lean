/-
  Package model: kept.
-/
import Derived.Test.YtdahhnefcageeaaMdlWo
namespace Go.Proofs.Mdl
def keptL (M : Mod) : List Ver → List Ver
  | [] => []
  | v :: r => if keptV M r.isEmpty v then v :: keptL M r else keptL M r
def keptM (M : Mod) : Mod := { M with all := keptL M M.all }
theorem keptL_cons (M : Mod) (v : Ver) (r : List Ver) : keptL M (v :: r) = if keptV M r.isEmpty v then v :: keptL M r else keptL M r := rfl
theorem keptL_nil {M : Mod} {l : List Ver} (h : keptL M l = []) : l = [] := by
  induction l with
  | nil => rfl
  | cons v r ih =>
    rw [keptL_cons] at h
    split at h
    · cases h
    · next hk =>
      have := ih h
      subst this
      exact absurd rfl hk
theorem keptL_le (M : Mod) (l : List Ver) : (keptL M l).length ≤ l.length := by
  induction l with
  | nil => exact Nat.le_refl _
  | cons v r ih =>
    rw [keptL_cons]
    split
    · simp only [List.length_cons]; omega
    · simp only [List.length_cons]; omega
end Go.Proofs.Mdl
namespace Go.Proofs.Ytdahhnefcageeaa
open Go.RowKit Go.Proofs.Mdl
set_option linter.unusedVariables false
set_option linter.unusedSimpArgs false
theorem two_boxes (w : World) (T1 T2 : TypeId) (c1 c2 : Array Value) : ∃ W g p, W = (w.alloc (.cells c1 T1)).alloc (.cells c2 T2) ∧ g = w.heap.size ∧ p = w.heap.size + 1 ∧ Below w.heap.size w W ∧ Blk W g T1 c1 ∧ Blk W p T2 c2 := by
  have b1 : Below (w.alloc (.cells c1 T1)).heap.size (w.alloc (.cells c1 T1)) ((w.alloc (.cells c1 T1)).alloc (.cells c2 T2)) := (Below.refl _ _).alloc (Nat.le_refl _) _
  have h1 := (Blk.new w T1 c1).below b1
  have h2 := Blk.new (w.alloc (.cells c1 T1)) T2 c2
  refine ⟨_, _, _, rfl, rfl, rfl, ((Bl.start w).alloc _ |>.alloc _).1, h1, ?_⟩
  rwa [World.size_alloc] at h2
/-- What is not yet looked at, and what is kept of the rest. -/
def half (M : Mod) (L : List Ver) (k : Nat) : List Ver := L.take k ++ keptL M (L.drop k)
section
variable {M : Mod} {L : List Ver} {k : Nat} {V : Ver}
theorem half_at (hk : L[k]? = some V) : (half M L (k + 1))[k]? = some V := by
  have hlt := (List.getElem?_eq_some_iff.1 hk).1
  unfold half
  rw [List.getElem?_append_left (by rw [List.length_take]; omega), List.getElem?_take, if_pos (by omega)]
  exact hk
theorem half_last (hk : L[k]? = some V) : (k + 1 = (half M L (k + 1)).length) ↔ (L.drop (k + 1)).isEmpty = true := by
  have hlt := (List.getElem?_eq_some_iff.1 hk).1
  unfold half
  rw [List.length_append, List.length_take, Nat.min_eq_left (by omega), List.isEmpty_iff]
  constructor
  · intro h
    exact keptL_nil (M := M) (List.length_eq_zero_iff.1 (by omega))
  · intro h
    rw [h]
    rfl
theorem drop_cons (hk : L[k]? = some V) : L.drop k = V :: L.drop (k + 1) := by
  have hlt := (List.getElem?_eq_some_iff.1 hk).1
  rw [List.drop_eq_getElem_cons hlt]
  congr 1
  rw [List.getElem?_eq_getElem hlt] at hk
  exact Option.some.inj hk
theorem half_keep (hk : L[k]? = some V) (h : keptV M (L.drop (k + 1)).isEmpty V = true) : half M L (k + 1) = half M L k := by
  unfold half
  rw [drop_cons hk, keptL_cons, if_pos h, List.take_add_one, hk]
  simp
theorem half_lose (hk : L[k]? = some V) (h : keptV M (L.drop (k + 1)).isEmpty V = false) : (half M L (k + 1)).eraseIdx k = half M L k := by
  have hlt := (List.getElem?_eq_some_iff.1 hk).1
  unfold half
  rw [drop_cons hk, keptL_cons, if_neg (by rw [h]; simp), List.take_add_one, hk, Option.toList_some, List.append_assoc]
  rw [List.eraseIdx_append_of_length_le (by rw [List.length_take]; omega), List.length_take, Nat.min_eq_left (by omega), Nat.sub_self]
  rfl
theorem half_len (M : Mod) (L : List Ver) (k : Nat) : (half M L k).length ≤ L.length := by
  unfold half
  have := keptL_le M (L.drop k)
  rw [List.length_append, List.length_take]
  rw [List.length_drop] at this
  omega
end
set_option maxRecDepth 100000 in
set_option maxHeartbeats 2000000 in
theorem kept_any {N : Nat → Prop} {w : World} {v : Value} {M : Mod} (h : Md N w v M) (h1 : 1 ≤ M.w) (h2 : M.w ≤ 8) (h3 : 1 ≤ M.n) (h4 : M.n ≤ 1048576) (hl : M.all.length ≤ 1000) :
    Calls Try.prog 50 #[v] w fun e w' => ∃ v', e = .returned v' ∧ Md (fun b => N b ∨ w.heap.size ≤ b) w' v' (keptM M) ∧ Below w.heap.size w w' := by
  obtain ⟨u, rfl, hv⟩ := h
  obtain ⟨A, c, rfl⟩ := hv.shape
  obtain ⟨w2, g, p, hw, hg, hp, hb, b1, b2⟩ := two_boxes w 24 24 #[.int .i64 M.w, .int .i64 M.n, .slice A M.all.length c] #[.int .i64 0, .int .i64 0, .slice none 0 0]
  have V2 : Hid (Vl (fun b => (N b ∧ b < w.heap.size) ∨ w2.heap.size ≤ b) w2 (.slice A M.all.length c) M.all) := Lib.hid ((hv.mono (N' := fun b => (N b ∧ b < w.heap.size) ∨ w2.heap.size ≤ b) (fun b h1 h2 => .inl ⟨h1, h2⟩)).below hb)
  have BW := Lib.hid (Bl.call (Bl.start w) hb)
  have BG := Lib.hid b1
  have BP := Lib.hid b2
  have q2 := b1.cell 2
  simp only [List.getElem?_toArray, List.getElem?_cons_succ, List.getElem?_cons_zero] at q2
  have GW : Hid (w.heap.size ≤ g) := Lib.hid (by omega)
  have PW : Hid (w.heap.size ≤ p) := Lib.hid (by omega)
  have GP : Hid (¬ g = p) := Lib.hid (by omega)
  have G2 := Lib.hid b1.lt
  have P2 := Lib.hid b2.lt
  have wl : IntKind.i64.wrap ((M.all.length : Int) - 1) = (M.all.length : Int) - 1 := IntWalk.i64_in _ (by omega)
  clear hv hb b1 b2
  go_enter Try.func50, Try.ntmps50
  go_upto_region 1 with (fail)
  rw [← hw, ← hp, ← hg]
  clear hw hp hg
  go_wp2_with fail
  go_loopw [3] (fun vi wr => ∃ k : Nat, vi = .int .i64 ((k : Int) - 1) ∧ k ≤ M.all.length ∧ Hid (∃ u, Vl (fun b => (N b ∧ b < w.heap.size) ∨ w2.heap.size ≤ b) wr u (half M M.all k) ∧ Blk wr g 24 #[.int .i64 M.w, .int .i64 M.n, u]) ∧ Hid (Blk wr p 24 #[.int .i64 0, .int .i64 0, .slice none 0 0]) ∧ Hid (Bl w.heap.size w wr) ∧ Hid (w2.heap.size ≤ wr.heap.size)) (fun vi _ => (intOf vi + 1).toNat)
  case atStart => exact ⟨M.all.length, rfl, Nat.le_refl _, Lib.hid ⟨_, by unfold half; rw [List.take_length, List.drop_length]; simpa [keptL] using V2.out, BG.out⟩, BP, BW, Lib.hid (Nat.le_refl _)⟩
  case round =>
    clear V2 BW BG BP q2
    obtain ⟨k, rfl, hk, HG, BP, BW, W2⟩ := hrel
    obtain ⟨u, hvu, hbg⟩ := HG.out
    have VU := Lib.hid hvu
    have BG := Lib.hid hbg
    obtain ⟨A2, c2, hu⟩ := hvu.shape
    subst hu
    have q0 := hbg.cell 0
    have q1 := hbg.cell 1
    have q2 := hbg.cell 2
    simp only [List.getElem?_toArray, List.getElem?_cons_succ, List.getElem?_cons_zero] at q0 q1 q2
    clear hvu hbg HG
    cases k with
    | zero =>
      have i1 : ¬ ((0 : Nat) : Int) - 1 ≥ 0 := by omega
      have p0 := BP.out.cell 0
      have p1 := BP.out.cell 1
      have p2 := BP.out.cell 2
      simp only [List.getElem?_toArray, List.getElem?_cons_succ, List.getElem?_cons_zero] at p0 p1 p2
      have f0 := BP.out.frozen 0
      have f1 := BP.out.frozen 1
      have f2 := BP.out.frozen 2
      go_wp2_with fail
      obtain ⟨w5, hw5, bw5, ff, b5⟩ := put3 BP.out BW.out PW.out (.int .i64 M.w) (.int .i64 M.n) (.slice A2 (half M M.all 0).length c2)
      rw [← hw5]
      refine bodyPost_ret (results_m1 rfl _ _ _ rfl b5) rfl ?_
      refine ⟨_, rfl, ⟨_, rfl, ?_⟩, bw5.1⟩
      have := VU.out.far ff (fun b hb hlt e => by
        have e1 : b = p := e
        have := PW.out
        have := P2.out
        rcases hb with ⟨_, hb⟩ | hb <;> omega)
      exact this.mono (fun b hb _ => hb.elim (fun h => .inl h.1) (fun h => .inr (by have := G2.out; have := GW.out; omega)))
    | succ k =>
      obtain ⟨V, hV⟩ : ∃ V, M.all[k]? = some V := ⟨_, List.getElem?_eq_getElem hk⟩
      obtain ⟨z, hz⟩ : ∃ z, z = (half M M.all (k + 1)).length := ⟨_, rfl⟩
      have hzl := half_len M M.all (k + 1)
      have IK := Lib.hid (isKept_any (M := { M with all := half M M.all (k + 1) }) ⟨_, rfl, VU.out⟩ (half_at hV) h1 h2 h3 h4 (Nat.le_trans hzl hl))
      obtain ⟨r, hr⟩ : ∃ r, r = keptV M (M.all.drop (k + 1)).isEmpty V := ⟨_, rfl⟩
      have hkv : keptV { M with all := half M M.all (k + 1) } (decide (k + 1 = (half M M.all (k + 1)).length)) V = r := by
        rw [hr]
        have e1 : decide (k + 1 = (half M M.all (k + 1)).length) = (M.all.drop (k + 1)).isEmpty := by
          have := half_last (M := M) hV
          cases he : (M.all.drop (k + 1)).isEmpty with
          | true => exact decide_eq_true (this.2 he)
          | false => exact decide_eq_false (fun e => by rw [this.1 e] at he; cases he)
        rw [e1]
        rfl
      rw [hkv] at IK
      have HR := Lib.hid hr
      have HV := Lib.hid hV
      have i0 : ((k + 1 : Nat) : Int) - 1 = (k : Int) := by omega
      have i1 : (k : Int) ≥ 0 := by omega
      have wk : IntKind.i64.wrap ((k : Int) - 1) = (k : Int) - 1 := IntWalk.i64_in _ (by omega)
      rw [i0]
      simp only at IK
      clear hkv hr hV hz
      cases r with
      | true =>
        go_wp2_with (go_at_call 39; refine IK.out.mono ?_; rintro e wx ⟨rfl, hb⟩; have HB := Lib.hid hb; clear hb)
        refine ⟨⟨k, rfl, by omega, Lib.hid ⟨_, ?_, BG.out.below HB.out⟩, Lib.hid (BP.out.below HB.out), Lib.hid (BW.out.call HB.out), Lib.hid (Nat.le_trans W2.out HB.out.size)⟩, by simp [intOf]⟩
        have := VU.out.below HB.out
        rwa [half_keep HV.out HR.out.symm] at this ⊢
      | false =>
        have LT : Hid (k + 1 < (half M M.all (k + 1)).length) := Lib.hid (by
          have h5 : (M.all.drop (k + 1)).isEmpty = false := by
            cases he : (M.all.drop (k + 1)).isEmpty with
            | false => rfl
            | true =>
              have := HR.out
              rw [he] at this
              cases this
          have h6 := half_last (M := M) HV.out
          have h7 := (List.getElem?_eq_some_iff.1 (half_at (M := M) HV.out)).1
          rcases Nat.lt_or_eq_of_le h7 with h8 | h8
          · exact h8
          · have := h6.1 h8
            rw [h5] at this
            cases this)
        go_wp2_with (first
          | (go_at_call 39; refine IK.out.mono ?_; rintro e wx ⟨rfl, hb⟩; have HB := Lib.hid hb; have BGx := Lib.hid (BG.out.below hb); have BPx := Lib.hid (BP.out.below hb); have BWx := Lib.hid (BW.out.call hb); have W2x := Lib.hid (Nat.le_trans W2.out hb.size); have WO := Lib.hid (without_any (VU.out.below hb) LT.out (Nat.le_trans hzl hl)); have x0 := BGx.out.cell 0; have x1 := BGx.out.cell 1; have x2 := BGx.out.cell 2; simp only [List.getElem?_toArray, List.getElem?_cons_succ, List.getElem?_cons_zero] at x0 x1 x2; clear hb q0 q1 q2)
          | (go_at_call 69; refine WO.out.mono ?_; rintro e wy ⟨v', rfl, hvl, hb⟩; have HBy := Lib.hid hb; have VL := Lib.hid hvl; have BGy := Lib.hid (BGx.out.below hb); have BPy := Lib.hid (BPx.out.below hb); have BWy := Lib.hid (BWx.out.call hb); have y2 := BGy.out.cell 2; have fy2 := BGy.out.frozen 2; simp only [List.getElem?_toArray, List.getElem?_cons_succ, List.getElem?_cons_zero] at y2; obtain ⟨A3, c3, hv3⟩ := hvl.shape; subst hv3; clear hb hvl x0 x1 x2))
        rw [half_lose HV.out HR.out.symm] at VL ⊢
        have F6 := Lib.hid ((Far.refl (fun i => i = g) wy).setCell (p := ⟨g, 2, none⟩) (fun _ => rfl) (.slice A3 (half M M.all k).length c3))
        refine ⟨⟨k, rfl, by omega, Lib.hid ⟨.slice A3 (half M M.all k).length c3, ?_, ?_⟩, Lib.hid (BPy.out.far F6.out (fun e => GP.out e.symm)), Lib.hid (Far.bl BWy.out F6.out (fun i e => by rw [e]; exact GW.out)), Lib.hid (Nat.le_trans (Nat.le_trans W2x.out HBy.out.size) F6.out.size)⟩, by simp [intOf]⟩
        · exact (VL.out.mono (N' := fun b => (N b ∧ b < w.heap.size) ∨ w2.heap.size ≤ b) (fun b hb _ => hb.elim id (fun h => .inr (Nat.le_trans W2x.out h)))).far F6.out (fun b hb hlt e => by
            have e1 : b = g := e
            have := GW.out
            have := G2.out
            rcases hb with ⟨_, hb⟩ | hb <;> omega)
        · exact BGy.out.set 2 _
end Go.Proofs.Ytdahhnefcageeaa
