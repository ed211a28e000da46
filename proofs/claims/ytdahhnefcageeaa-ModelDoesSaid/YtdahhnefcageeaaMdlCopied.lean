/-
  Package model: copied.
-/
import Derived.Test.YtdahhnefcageeaaMdlClone
import Derived.Test.YtdahhnefcageeaaRunOps
import Derived.Test.YtdahhnefcageeaaWalkQ
import Derived.Test.YtdahhnefcageeaaGaStep
import Derived.Deep.Cut
import Derived.Deep.RegionLaw
namespace Go.Proofs.Ytdahhnefcageeaa
open Go.RowKit Go.Proofs.Mdl
set_option linter.unusedVariables false
set_option linter.unusedSimpArgs false
theorem farEv_refl (r : Nat) (w : World) : Far (fun i => i = r) w w := Far.refl _ w
theorem farEv_trans (r : Nat) (a b c : World) (h : Far (fun i => i = r) a b) (k : Far (fun i => i = r) b c) : Far (fun i => i = r) a c := h.trans k (fun _ _ h => h)
theorem farEv_below (r : Nat) {a b : World} (k : Below a.heap.size a b) : Far (fun i => i = r) a b := (far_of_below k).mono (fun _ _ h => h.elim)
theorem flatR_set : ∀ (rs : List Raw) (k : Nat) (x : Raw) (e c : Value), rs[k]? = some x → ((flatR rs).set (k * 4 + 1) e).set (k * 4 + 2) c = flatR (rs.set k ⟨x.b, e, c, x.p⟩)
  | [], k, x, e, c, h => by simp at h
  | y :: r, 0, x, e, c, h => by
    simp only [List.getElem?_cons_zero, Option.some.injEq] at h
    subst h
    rfl
  | y :: r, k + 1, x, e, c, h => by
    have ih := flatR_set r k x e c (by simpa using h)
    rw [List.set_cons_succ, flatR_cons, flatR_cons, ← ih]
    rw [List.set_append_right _ _ (by simp [cellR]; omega)]
    rw [List.set_append_right _ _ (by simp [cellR]; omega)]
    congr 1
    have e1 : (k + 1) * 4 + 1 - (cellR y).length = k * 4 + 1 := by simp [cellR]; omega
    have e2 : (k + 1) * 4 + 2 - (cellR y).length = k * 4 + 2 := by simp [cellR]; omega
    rw [e1, e2]
theorem isAggEs (W : World) : (isAgg 43).run Try.prog W = .ok false W := by kernel_rfl
theorem isAggCs (W : World) : (isAgg 25).run Try.prog W = .ok false W := by kernel_rfl
theorem _root_.List.set_getElem_of_some {α : Type} {l : List α} {k : Nat} {x : α} (h : l[k]? = some x) : l.set k x = l := by
  apply List.ext_getElem?
  intro i
  rw [List.getElem?_set]
  by_cases e : k = i
  · subst e
    rw [if_pos rfl, if_pos (List.getElem?_eq_some_iff.1 h).1, h]
  · rw [if_neg e]
theorem sizeVers (W : World) : (sizeOf 62).run Try.prog W = .ok 4 W := by kernel_rfl
set_option maxRecDepth 100000 in
set_option maxHeartbeats 2000000 in
theorem copied_any {N : Nat → Prop} {w : World} {v : Value} {M : Mod} (h : Md N w v M) (hl : M.all.length ≤ 1000) (hn : 0 < M.all.length) (he : ∀ V ∈ M.all, V.e.length ≤ 1000 ∧ V.c.length ≤ 1000) :
    Calls Try.prog 49 #[v] w fun e w' => ∃ g, e = .returned (.agg #[.int .i64 M.w, .int .i64 M.n, .slice (some ⟨g, 0, none⟩) M.all.length M.all.length]) ∧ w.heap.size ≤ g ∧ (∃ rs, Rv (fun b => w.heap.size ≤ b ∧ ¬ b = g) w' rs M.all ∧ Blk w' g 62 (flatR rs).toArray) ∧ Below w.heap.size w w' := by
  obtain ⟨u, rfl, hv⟩ := h
  obtain ⟨b, o, c, rs, rfl, hc, hb, hr, hcell⟩ := hv.cells hn
  obtain ⟨z, hz⟩ : ∃ z, z = M.all.length := ⟨_, rfl⟩
  have HZ := Lib.hid hz
  have R0 : Hid (Rv (fun b => N b ∧ b < w.heap.size) w rs M.all) := Lib.hid (hr.mono (fun b h1 h2 => ⟨h1, h2⟩))
  obtain ⟨w2, g, p, hw, hg, hp, hb2, b1, b2⟩ := two_boxes w 24 24 #[.int .i64 M.w, .int .i64 M.n, .slice (some ⟨b, o, none⟩) M.all.length c] #[.int .i64 0, .int .i64 0, .slice none 0 0]
  have BW := Lib.hid (Bl.call (Bl.start w) hb2)
  have hmk := make_vers M.all.length hl w2
  obtain ⟨Z, hZ⟩ : ∃ Z : List Value, madeCells zeroVer.cells (M.all.length * 4) = Z.toArray := ⟨_, (Array.toArray_toList).symm⟩
  have hZl : Z.length = M.all.length * 4 := by have := congrArg Array.size hZ; rw [size_madeCells] at this; simpa using this.symm
  rw [hZ] at hmk
  have k1 := Blk.new w2 62 Z.toArray
  have bb : Below w2.heap.size w2 (w2.alloc (.cells Z.toArray 62)) := (Below.refl _ _).alloc (Nat.le_refl _) _
  have bw3 := BW.out.alloc (.cells Z.toArray 62)
  have lfl : (flatR rs).length = M.all.length * 4 := by rw [flatR_length, hr.len]
  have hcp := fun ty => copy_vers (w2.alloc (.cells Z.toArray 62)) ty w2.heap.size 0 M.all.length M.all.length ⟨b, o, none⟩ M.all.length c M.all.length (flatR rs) Z (Nat.min_self _).symm lfl k1 (by rw [lfl, hZl, Nat.zero_add]; exact Nat.le_refl _) (fun j x hx => by
    rw [Addr.add_mid]
    exact (bw3.1.cell (p := ⟨b, _, none⟩) hb).trans (hcell j x hx)) hr.one
  have k2 := Blk.setCells (flatR rs) 0 Z _ k1 (by rw [lfl, hZl, Nat.zero_add]; exact Nat.le_refl _)
  have hsp : splice Z 0 (flatR rs) = flatR rs := by
    unfold splice
    rw [List.take_zero, List.nil_append, Nat.zero_add, List.drop_eq_nil_of_le (by omega), List.append_nil]
  rw [hsp] at k2
  have f2 := far_setCells (S := fun i => i = w2.heap.size) (k := w2.heap.size) (fun _ => rfl) (flatR rs) 0 _ (Far.refl _ (w2.alloc (.cells Z.toArray 62)))
  have bg3 := (b1.below bb).far f2 (fun e => by have := b1.lt; omega)
  have bp3 := (b2.below bb).far f2 (fun e => by have := b2.lt; omega)
  have bw4 := Far.bl bw3 f2 (fun i e => by rw [e]; exact BW.out.2)
  have q2 := b1.cell 2
  simp only [List.getElem?_toArray, List.getElem?_cons_succ, List.getElem?_cons_zero] at q2
  have q3 := (b1.below bb).cell 2
  simp only [List.getElem?_toArray, List.getElem?_cons_succ, List.getElem?_cons_zero] at q3
  have GW : Hid (w.heap.size ≤ g) := Lib.hid (by omega)
  have PW : Hid (w.heap.size ≤ p) := Lib.hid (by omega)
  have GP : Hid (¬ g = p) := Lib.hid (by omega)
  have G2 := Lib.hid b1.lt
  have P2 := Lib.hid b2.lt
  have RW := Lib.hid BW.out.2
  have SZ : Hid (w2.heap.size < ((w2.alloc (.cells Z.toArray 62)).setCells w2.heap.size 0 (flatR rs)).heap.size) := Lib.hid k2.lt
  have BG3 := Lib.hid bg3
  have BP3 := Lib.hid bp3
  have BW4 := Lib.hid bw4
  have K2 := Lib.hid k2
  clear hv hc hb hr hcell hZ hZl k1 bb bw3 lfl k2 hsp f2 bg3 bp3 bw4 b1 b2 BW
  go_enter Try.func49, Try.ntmps49
  go_upto_region 1 with (fail)
  rw [← hw, ← hp, ← hg]
  clear hw hp hg
  go_upto_region 3 with (fail)
  have R3 : Hid (Rv (fun b => (N b ∧ b < w.heap.size) ∨ ((w2.alloc (.cells Z.toArray 62)).setCells w2.heap.size 0 (flatR rs)).heap.size ≤ b) ((w2.alloc (.cells Z.toArray 62)).setCells w2.heap.size 0 (flatR rs)) rs M.all) := Lib.hid ((R0.out.mono (N' := fun b => (N b ∧ b < w.heap.size) ∨ ((w2.alloc (.cells Z.toArray 62)).setCells w2.heap.size 0 (flatR rs)).heap.size ≤ b) (fun b h _ => .inl h)).below BW4.out.1)
  clear hmk hcp q2 q3
  obtain ⟨w3, hw3⟩ : ∃ w3, w3 = (w2.alloc (.cells Z.toArray 62)).setCells w2.heap.size 0 (flatR rs) := ⟨_, rfl⟩
  rw [← hw3] at SZ BG3 BP3 BW4 K2 R3 ⊢
  clear hw3
  generalize w2.heap.size = r at *
  rw [← hz]
  rw [← hz] at BG3 hl hn
  clear hz
  go_wp2_with fail
  go_loopw [16] (fun vi wr => ∃ k : Nat, vi = .int .i64 (k : Int) ∧ k ≤ z ∧ Hid (∃ rs', Rv (fun b => (N b ∧ b < w.heap.size) ∨ w3.heap.size ≤ b) wr rs' M.all ∧ Blk wr r 62 (flatR rs').toArray ∧ ∀ (j : Nat) (x : Raw) (V : Ver), j < k → rs'[j]? = some x → M.all[j]? = some V → Sh (fun b => w3.heap.size ≤ b) wr x V) ∧ Hid (Blk wr g 24 #[.int .i64 M.w, .int .i64 M.n, .slice (some ⟨b, o, none⟩) z c]) ∧ Hid (Blk wr p 24 #[.int .i64 0, .int .i64 0, .slice none 0 0]) ∧ Hid (Bl w.heap.size w wr) ∧ Hid (w3.heap.size ≤ wr.heap.size)) (fun vi _ => z - (intOf vi).toNat)
  case atStart => exact ⟨0, rfl, Nat.zero_le _, Lib.hid ⟨rs, R3.out, K2.out, fun j x V hj => by omega⟩, BG3, BP3, BW4, Lib.hid (Nat.le_refl _)⟩
  case round =>
    clear R3 K2 BG3 BP3 BW4 R0
    obtain ⟨k, rfl, hk, HR, BG, BP, BW, W3⟩ := hrel
    obtain ⟨rs', hrv, hrow, hfresh⟩ := HR.out
    have RV := Lib.hid hrv
    have ROW := Lib.hid hrow
    have FR := Lib.hid hfresh
    clear HR hrv hrow hfresh
    by_cases hlt : k < z
    · obtain ⟨V, hV⟩ : ∃ V, M.all[k]? = some V := ⟨_, List.getElem?_eq_getElem (by rw [← HZ.out]; exact hlt)⟩
      obtain ⟨x, hx, hsh⟩ := RV.out.get hV
      obtain ⟨c0, c1, c2, c3⟩ := flatR_at rs' k x hx
      have d0 : wr.cell? ⟨r, k * 4, none⟩ = some (.int .i64 x.b) := by rw [ROW.out.cell, List.getElem?_toArray]; exact c0
      have d1 : wr.cell? ⟨r, k * 4 + 1, none⟩ = some x.e := by rw [ROW.out.cell, List.getElem?_toArray]; exact c1
      have d2 : wr.cell? ⟨r, k * 4 + 2, none⟩ = some x.c := by rw [ROW.out.cell, List.getElem?_toArray]; exact c2
      have d3 : wr.cell? ⟨r, k * 4 + 3, none⟩ = some (.int .i64 x.p) := by rw [ROW.out.cell, List.getElem?_toArray]; exact c3
      have HX := Lib.hid hx
      have HV := Lib.hid hV
      have SH := Lib.hid hsh
      obtain ⟨xb, xe, xc, xp⟩ := x
      obtain ⟨Ae, ce, rfl⟩ := hsh.e.toEs.shape
      obtain ⟨Ac, cc, rfl⟩ := hsh.c.toCs.shape
      simp only at d0 d1 d2 d3
      have i1 : (k : Int) < (z : Int) := by omega
      have wk : IntKind.i64.wrap ((k : Int) + 1) = (k : Int) + 1 := IntWalk.i64_in _ (by omega)
      clear hx hV hsh c0 c1 c2 c3
      have N1 := Lib.hid (flatR_at rs' k _ HX.out).2.1
      have N2 := Lib.hid (flatR_at rs' k _ HX.out).2.2.1
      have LV := Lib.hid (he V (List.mem_of_getElem? HV.out))
      go_upto_region 6 with (fail)
      have B5 := Lib.hid (Blk.new wr 62 #[.int .i64 xb, .slice Ae V.e.length ce, .slice Ac V.c.length cc, .int .i64 xp])
      have bl5 : Below wr.heap.size wr (wr.alloc (.cells #[.int .i64 xb, .slice Ae V.e.length ce, .slice Ac V.c.length cc, .int .i64 xp] 62)) := (Below.refl _ _).alloc (Nat.le_refl _) _
      have RV5 := Lib.hid (RV.out.below bl5)
      have SH5 := Lib.hid (SH.out.below bl5)
      have ROW5 := Lib.hid (ROW.out.below bl5)
      have BG5 := Lib.hid (BG.out.below bl5)
      have BP5 := Lib.hid (BP.out.below bl5)
      have BW5 := Lib.hid (BW.out.call bl5)
      have W35 := Lib.hid (Nat.le_trans W3.out bl5.size)
      have FR5 : Hid (∀ (j : Nat) (x : Raw) (U : Ver), j < k → rs'[j]? = some x → M.all[j]? = some U → Sh (fun b => w3.heap.size ≤ b) (wr.alloc (.cells #[.int .i64 xb, .slice Ae V.e.length ce, .slice Ac V.c.length cc, .int .i64 xp] 62)) x U) := Lib.hid (fun j x V hj h1 h2 => (FR.out j x V hj h1 h2).below bl5)
      have GR : Hid (¬ wr.heap.size = r) := Lib.hid (by have := SZ.out; have := W3.out; omega)
      clear d0 d1 d2 d3 RV ROW FR BG BP BW W3 SH bl5
      generalize wr.alloc (.cells #[.int .i64 xb, .slice Ae V.e.length ce, .slice Ac V.c.length cc, .int .i64 xp] 62) = w5 at *
      generalize wr.heap.size = g5 at *
      have E1 : Hid (∀ W, Far (fun i => i = r) w5 W → W.cell? ⟨g5, 1, none⟩ = some (.slice Ae V.e.length ce)) := Lib.hid (fun W hW => by rw [(B5.out.far hW GR.out).cell]; rfl)
      have E2 : Hid (∀ W, Far (fun i => i = r) w5 W → W.cell? ⟨g5, 2, none⟩ = some (.slice Ac V.c.length cc)) := Lib.hid (fun W hW => by rw [(B5.out.far hW GR.out).cell]; rfl)
      have NR : Hid (∀ b, ((N b ∧ b < w.heap.size) ∨ w3.heap.size ≤ b) → ¬ b = r) := Lib.hid (fun b hb => by have := SZ.out; have := RW.out; rcases hb with hb | hb <;> omega)
      have C1 : Hid (∀ W, Far (fun i => i = r) w5 W → Calls Try.prog 41 #[.slice Ae V.e.length ce] W fun e w' => ∃ v', e = .returned v' ∧ EsN (fun b => W.heap.size ≤ b) w' v' V.e ∧ Below W.heap.size W w') := Lib.hid (fun W hW => cloneE_any (SH5.out.e.far hW (fun b h _ => NR.out b h)) LV.out.1)
      have C2 : Hid (∀ W, Far (fun i => i = r) w5 W → Calls Try.prog 68 #[.slice Ac V.c.length cc] W fun e w' => ∃ v', e = .returned v' ∧ CsN (fun b => W.heap.size ≤ b) w' v' V.c ∧ Below W.heap.size W w') := Lib.hid (fun W hW => cloneC_any (SH5.out.c.far hW (fun b h _ => NR.out b h)) LV.out.2)
      have D0 : Hid (Far (fun i => i = r) w5 w5.drew) := Lib.hid ((Far.refl _ w5).drew)
      have ST : Hid (∀ W, Far (fun i => i = r) w5 W → W.cell? ⟨g5, 1, none⟩ = some (.slice Ae V.e.length ce) ∧ W.cell? ⟨g5, 2, none⟩ = some (.slice Ac V.c.length cc)) := Lib.hid (fun W hW => ⟨E1.out W hW, E2.out W hW⟩)
      have ROW6 : Hid (Blk w5.drew r 62 (flatR rs').toArray) := Lib.hid (ROW5.out.drewN 1)
      have BW6 : Hid (Bl w.heap.size w w5.drew) := Lib.hid BW5.out.drew
      have i1 : (k : Int) < (z : Int) := by omega
      clear E1 E2
      go_region_held3 (fun W => W.cell? ⟨g5, 1, none⟩ = some (.slice Ae V.e.length ce) ∧ W.cell? ⟨g5, 2, none⟩ = some (.slice Ac V.c.length cc))
        (first | (with_reducible exact ST.out _ D0.out) | (with_reducible exact ST.out _ F7.out) | (with_reducible exact ST.out _ F9.out) | (with_reducible exact ST.out _ F10.out) | (with_reducible exact ST.out _ F11.out))
        (first
          | (go_at_call 41; with_reducible refine (C1.out _ D0.out).mono ?_; rintro e w7 ⟨v7, rfl, hes, hb7⟩; have ES7 := Lib.hid hes; have HB7 := Lib.hid hb7; have F7 := Lib.hid (farEv_trans r _ _ _ D0.out (farEv_below r hb7)); have ROW7 := Lib.hid (ROW6.out.below hb7); have BW7 := Lib.hid (BW6.out.call hb7); obtain ⟨A7, c7, hv7⟩ := hes.toEs.shape; subst hv7; clear hes hb7)
          | (go_at_call 68; with_reducible refine (C2.out _ F7.out).mono ?_; rintro e w9 ⟨v9, rfl, hcs, hb9⟩; have CS9 := Lib.hid hcs; have HB9 := Lib.hid hb9; have F9 := Lib.hid (farEv_trans r _ _ _ F7.out (farEv_below r hb9)); have ROW9 := Lib.hid (ROW7.out.below hb9); have BW9 := Lib.hid (BW7.out.call hb9); obtain ⟨A9, c9, hv9⟩ := hcs.toCs.shape; subst hv9; have q1 : w9.cell? ⟨r, k * 4 + 1, none⟩ = some (.slice Ae V.e.length ce) := by { rw [ROW9.out.cell, List.getElem?_toArray]; exact N1.out }; have q2 : w9.cell? ⟨r, k * 4 + 2, none⟩ = some (.slice Ac V.c.length cc) := by { rw [ROW9.out.cell, List.getElem?_toArray]; exact N2.out }; have f1 := ROW9.out.frozen (k * 4 + 1); have f2 := ROW9.out.frozen (k * 4 + 2); have F10 := Lib.hid (F9.out.setCell (p := ⟨r, k * 4 + 1, none⟩) (fun _ => rfl) (.slice A7 V.e.length c7)); have F11 := Lib.hid (F10.out.setCell (p := ⟨r, k * 4 + 2, none⟩) (fun _ => rfl) (.slice A9 V.c.length c9)); clear hcs hb9))
      have G9 := Lib.hid ((Far.refl (fun i => i = r) w9).setCell (p := ⟨r, k * 4 + 1, none⟩) (fun _ => rfl) (.slice A7 V.e.length c7))
      have G11 := Lib.hid (G9.out.setCell (p := ⟨r, k * 4 + 2, none⟩) (fun _ => rfl) (.slice A9 V.c.length c9))
      have ROW11 := Lib.hid ((ROW9.out.set (k * 4 + 1) (.slice A7 V.e.length c7)).set (k * 4 + 2) (.slice A9 V.c.length c9))
      have WLE : Hid (w3.heap.size ≤ w7.heap.size) := Lib.hid (Nat.le_trans W35.out F7.out.size)
      have RLT : Hid (r < w3.heap.size) := SZ
      have SN : Hid (Sh (fun b => w3.heap.size ≤ b) ((w9.setCell ⟨r, k * 4 + 1, none⟩ (.slice A7 V.e.length c7)).setCell ⟨r, k * 4 + 2, none⟩ (.slice A9 V.c.length c9)) ⟨xb, .slice A7 V.e.length c7, .slice A9 V.c.length c9, xp⟩ V) := Lib.hid ⟨SH5.out.b, SH5.out.p, ((ES7.out.mono (N' := fun b => w3.heap.size ≤ b) (fun b hb _ => Nat.le_trans W35.out hb)).below HB9.out).far G11.out (fun b hb _ e => by have e1 : b = r := e; have := RLT.out; omega), (CS9.out.mono (N' := fun b => w3.heap.size ≤ b) (fun b hb _ => Nat.le_trans WLE.out hb)).far G11.out (fun b hb _ e => by have e1 : b = r := e; have := RLT.out; omega)⟩
      have BW11 := Lib.hid (Far.bl BW9.out G11.out (fun i e => by rw [e]; exact RW.out))
      clear q1 q2 f1 f2
      go_wp2_with fail
      refine ⟨⟨k + 1, rfl, hlt, Lib.hid ⟨rs'.set k ⟨xb, .slice A7 V.e.length c7, .slice A9 V.c.length c9, xp⟩, ?_, ?_, ?_⟩, Lib.hid (BG5.out.far F11.out (fun e => ?_)), Lib.hid (BP5.out.far F11.out (fun e => ?_)), BW11, Lib.hid (Nat.le_trans W35.out F11.out.size)⟩, by simp [intOf]; omega⟩
      · have h1 := (RV5.out.far F11.out (fun b hb _ => NR.out b hb)).set k (SN.out.mono (N' := fun b => (N b ∧ b < w.heap.size) ∨ w3.heap.size ≤ b) (fun b hb _ => .inr hb))
        rwa [List.set_getElem_of_some HV.out] at h1
      · have := ROW11.out
        rw [List.setIfInBounds_toArray, List.setIfInBounds_toArray, flatR_set rs' k _ _ _ HX.out] at this
        exact this
      · intro j x U hj h1 h2
        by_cases e : j = k
        · subst e
          rw [HV.out] at h2
          cases h2
          rw [List.getElem?_set_self (List.getElem?_eq_some_iff.1 HX.out).1] at h1
          cases h1
          exact SN.out
        · rw [List.getElem?_set_ne (fun e2 => e e2.symm)] at h1
          exact (FR5.out j x U (by omega) h1 h2).far F11.out (fun b hb _ e2 => by have e1 : b = r := e2; have := RLT.out; omega)
      · have := G2.out; omega
      · have := P2.out; omega
    · have i1 : ¬ (k : Int) < (z : Int) := by omega
      obtain rfl : k = z := by omega
      have q0 := BG.out.cell 0
      have q1 := BG.out.cell 1
      have q2 := BG.out.cell 2
      have g2 := BG.out.frozen 2
      have p0 := BP.out.cell 0
      have p1 := BP.out.cell 1
      have p2 := BP.out.cell 2
      simp only [List.getElem?_toArray, List.getElem?_cons_succ, List.getElem?_cons_zero] at q0 q1 q2 p0 p1 p2
      have f0 := BP.out.frozen 0
      have f1 := BP.out.frozen 1
      have f2 := BP.out.frozen 2
      have pg : p ≠ g := fun e => GP.out e.symm
      have gp : g ≠ p := GP.out
      go_wp2_with fail
      have F1 := Lib.hid ((Far.refl (fun i => i = g) wr).setCell (p := ⟨g, 2, none⟩) (fun _ => rfl) (.slice (some ⟨r, 0, none⟩) k k))
      have BP1 := Lib.hid (BP.out.far F1.out pg)
      have BW1 := Lib.hid (Far.bl BW.out F1.out (fun i e => by rw [e]; exact GW.out))
      have RVF : Hid (Rv (fun b => w3.heap.size ≤ b) wr rs' M.all) := Lib.hid ⟨RV.out.len, fun j x V h1 h2 => FR.out j x V (by have := (List.getElem?_eq_some_iff.1 h2).1; rw [← HZ.out] at this; exact this) h1 h2⟩
      obtain ⟨w9, hw9, bw9, ff9, b9⟩ := put3 BP1.out BW1.out PW.out (.int .i64 M.w) (.int .i64 M.n) (.slice (some ⟨r, 0, none⟩) k k)
      rw [← hw9]
      refine bodyPost_ret (results_m1 rfl _ _ _ rfl b9) rfl ?_
      have l1 := G2.out
      have l2 := P2.out
      have l3 := SZ.out
      have l4 := RW.out
      refine ⟨r, by rw [← HZ.out], RW.out, ⟨rs', ?_, (ROW.out.far F1.out (fun e => by have e1 : r = g := e; omega)).far ff9 (fun e => by have e1 : r = p := e; omega)⟩, bw9.1⟩
      exact ((RVF.out.far F1.out (fun b hb _ e => by have e1 : b = g := e; omega)).far ff9 (fun b hb _ e => by have e1 : b = p := e; omega)).mono (fun b hb _ => ⟨by omega, by omega⟩)
end Go.Proofs.Ytdahhnefcageeaa
