/-
  Package frame: the things of a list are read.
-/
import Derived.Test.YtlbebdkockejcaaGreatDoorGaFrA
import Derived.Test.YtlbebdkockejcaaGreatDoorGaFrB
import Derived.Test.YtlbebdkockejcaaGreatDoorFrmChg
namespace Go.Proofs.YtlbebdkockejcaaGreatDoor
open Go.RowKit Go.Proofs.Frm Go.Proofs.Mdl
set_option linter.unusedVariables false
set_option linter.unusedSimpArgs false
theorem elemEntF : Tryz.prog.underlying 25 = some (.slice 52) := by kernel_rfl
theorem infoEntF : (Tryz.prog.info? 52).map (fun i => (i.zero, i.size, i.bytes)) = some (some (.agg #[.string ByteArray.empty, .string ByteArray.empty]), 2, 32) := by kernel_rfl
theorem elemChgF : Tryz.prog.underlying 28 = some (.slice 54) := by kernel_rfl
theorem infoChgF : (Tryz.prog.info? 54).map (fun i => (i.zero, i.size, i.bytes)) = some (some (.agg #[.string ByteArray.empty, .string ByteArray.empty, .bool false]), 3, 40) := by kernel_rfl
theorem rows_step {T : Type} (f : ByteArray → T) (g : ByteArray → Bool) {l : List ByteArray} {k : Nat} {x : ByteArray} (h : l[k]? = some x) : (l.take (k + 1)).map f = (l.take k).map f ++ [f x] ∧ (l.take (k + 1)).any g = ((l.take k).any g || g x) := by
  rw [List.take_add_one, h]
  simp
set_option maxRecDepth 100000 in
set_option maxHeartbeats 4000000 in
theorem rowsE_any {M b : Nat} {r : Rd} {w : World} (h : Rm M w b r) (hM : M ≤ w.heap.size) (hl : Laid2 w) (hg : 0 ≠ b) :
    Calls Tryz.prog 74 #[.pointer (some ⟨b, 0, none⟩), .func (.func 75) #[] #[]] w fun e w' => ∃ v, e = .returned v ∧ w'.ownsRow w.heap.size 52 2 v (rdRows entR r).1.length (flatE (rdRows entR r).1) ∧ Rm M w' b (rdRows entR r).2 ∧ Far (fun i => i = b) w w' := by
  have LR := Lib.hid (rdList_any h hl hg)
  have hlt := h.lt
  have hgl := hl.lt
  have HLT := Lib.hid hlt
  have HGL := Lib.hid hgl
  have HL := Lib.hid hl
  have HG := Lib.hid hg
  have HM := Lib.hid hM
  unfold rdRows
  obtain ⟨⟨l, r1⟩, hl1⟩ : ∃ z, z = rdList r := ⟨_, rfl⟩
  rw [← hl1] at LR
  rw [← hl1]
  clear h hM hl hg hlt hgl hl1
  simp only at LR ⊢
  go_enter Tryz.func74, Tryz.ntmps74
  go_upto_region 2 with (fail)
  go_wp2_with (go_at_call 93; refine LR.out.mono ?_; rintro e w1 ⟨vl, rfl, hs, hown, hsm, hfew, hr, hf⟩; obtain ⟨A, c, rfl, hac, hA⟩ := hs; skip)
  obtain ⟨z, hz⟩ : ∃ z, z = l.length := ⟨_, rfl⟩
  have SS : Hid (Ss w1 (.slice A l.length c) l) := Lib.hid ⟨A, c, rfl, hac, hA⟩
  have HO := Lib.hid hown
  have SM := Lib.hid hsm
  have R1 := Lib.hid hr
  have F1 := Lib.hid hf
  have n1 : z ≤ 999999 := by omega
  have LD1 := Lib.hid (HL.out.far hf (fun e => HG.out e))
  rw [← hz] at SS HO ⊢
  have HZ := Lib.hid hz
  clear hown hsm hfew hr hf hac hA hz
  go_loopw [5, 12] (fun v5 vi wr => ∃ (k : Nat) (u5 : Value), u5 = v5 ∧ vi = .int .i64 (k : Int) ∧ k ≤ z ∧ Hid (wr.ownsRow w1.heap.size 52 2 v5 ((l.take k).map (fun x => (entR (newR x)).1)).length (flatE ((l.take k).map (fun x => (entR (newR x)).1)))) ∧ Hid (Rm M wr b ⟨r1.items, r1.bad || (l.take k).any (fun x => (entR (newR x)).2.bad)⟩) ∧ Hid (Far (fun i => i = b) w1 wr)) (fun _ vi _ => z - (intOf vi).toNat)
  case atStart => exact ⟨0, _, rfl, rfl, Nat.zero_le _, Lib.hid ⟨rfl, .inl ⟨rfl, rfl⟩⟩, Lib.hid (by simpa using R1.out), Lib.hid (Far.refl _ _)⟩
  case round =>
    obtain ⟨k, v5, rfl, rfl, hk, OD, RB, FB⟩ := hrel
    by_cases hlt : k < z
    · obtain ⟨x, hx⟩ : ∃ x, l[k]? = some x := ⟨_, List.getElem?_eq_getElem (by rw [← HZ.out]; exact hlt)⟩
      have hss : Ss wr (.slice A z c) l := SS.out.far FB.out (fun i hi e => by have := (HO.out i hi).1; have := HLT.out; omega)
      obtain ⟨bk, o, c', hv, hbl, d0⟩ := hss.at_ hx
      simp only [Value.slice.injEq] at hv
      obtain ⟨rfl, -, -⟩ := hv
      have STEP := Lib.hid (rows_step (fun x => (entR (newR x)).1) (fun x => (entR (newR x)).2.bad) hx)
      have LDr := Lib.hid (LD1.out.far FB.out (fun e => HG.out e))
      have NR := Lib.hid (newReader_any x wr (SM.out x (List.mem_of_getElem? hx)) LDr.out)
      have SZ := Lib.hid (Nat.le_trans F1.out.size FB.out.size)
      have VB : Hid (∀ i, v5.ownBlock = some i → w1.heap.size ≤ i ∧ i < wr.heap.size) := Lib.hid (fun i hi => OD.out.lt i hi)
      obtain ⟨y, hy⟩ : ∃ y, y = entR (newR x) := ⟨_, rfl⟩
      have EV := Lib.hid (fun M' b' W => entR_any (M := M') (b := b') (w := W) (r := newR x))
      simp only [← hy] at STEP EV
      obtain ⟨ey, ry⟩ := y
      simp only at STEP EV
      have i1 : (k : Int) < (z : Int) := by omega
      have wk : IntKind.i64.wrap ((k : Int) + 1) = (k : Int) + 1 := IntWalk.i64_in _ (by omega)
      clear hx hbl hy hss
      go_upto_region 5 with (fail)
      go_upto_region 6 with (go_at_call 65; refine NR.out.mono ?_; rintro e w2 ⟨q, nv, nu, rfl, hN⟩; have N2 := Lib.hid hN; have R2 := Lib.hid (EV.out _ q w2 hN.rm (Nat.le_refl _) (LDr.out.on hN.bel (Nat.le_refl _)) (by have := hN.ge; have := SZ.out; have := HGL.out; omega)); clear hN)
      go_upto_region 7 with (first
        | (go_at_call 75; refine R2.out.mono ?_; rintro e w3 ⟨rfl, hr3, hf3⟩; have R3 := Lib.hid hr3; have F3 := Lib.hid hf3; have BA3 := Lib.hid (N2.out.bel.trans (hf3.below (B := wr.heap.size) (N2.out.bel.size) (fun i e => by rw [e]; exact N2.out.ge))); have OD3 := Lib.hid (own_below OD.out BA3.out); clear hr3 hf3)
        | (at_builtin; refine wpList_append_own (k := 2) (T := 52) (S := 25) elemEntF infoEntF rfl (by decide) (by decide) rfl _ _ rfl rfl w1.heap.size _ _ (flatE ((l.take k).map (fun x => (entR (newR x)).1))) w3.heap.size 0 1 1 [.string ey.k, .string ey.v] rfl rfl (World.ownsRow.alloc OD3.out _) rfl (new_cells w3 52 [.string ey.k, .string ey.v]) (by simp [Value.oneCell']) (by simp; omega) (by simp; have := BA3.out.size; have := FB.out.size; omega) ?_; intro v5' wb hown hgr _; have OE := Lib.hid hown; have GB := Lib.hid hgr; clear hown hgr))
      have F4 : Hid (Far (fun i => v5.ownBlock = some i) w3 wb) := Lib.hid (((Far.refl (fun i => v5.ownBlock = some i) w3).alloc (.cells [.string ey.k, .string ey.v].toArray 52)).grown GB.out (fun i _ e => e))
      have hq : ¬ v5.ownBlock = some q := fun e => by have := (VB.out q e).2; have := N2.out.ge; omega
      have hbN : b < w1.heap.size := Nat.lt_of_lt_of_le HLT.out F1.out.size
      have RB4 : Rm M wb b ⟨r1.items, r1.bad || (l.take k).any (fun x => (entR (newR x)).2.bad)⟩ := (RB.out.below BA3.out).far F4.out (fun e => by have := (VB.out b e).1; omega) (fun i hi _ e => by have := (VB.out i e).1; have := HM.out; have := F1.out.size; omega)
      have HRB := Lib.hid RB4
      have OF := Lib.hid (show wb.ownsRow w1.heap.size 52 2 v5' ((l.take k).map (fun x => (entR (newR x)).1) ++ [ey]).length (flatE ((l.take k).map (fun x => (entR (newR x)).1) ++ [ey])) from by rw [flatE_append, List.length_append]; exact OE.out)
      have FF := Lib.hid ((FB.out.call BA3.out).trans F4.out (fun i hi e => by have := (VB.out i e).1; omega))
      have HNB := Lib.hid hbN
      obtain ⟨qv, qe, qb, -, -, -, qer, -⟩ := R3.out
      have QB := qb.far F4.out hq
      have c1 := QB.cell 1
      obtain ⟨bv, be, bb, -⟩ := RB4
      have d1 := bb.cell 1
      have g1 := bb.frozen 1
      simp only [List.getElem?_toArray, List.getElem?_cons_succ, List.getElem?_cons_zero] at c1 d1
      clear QB qb bb hq hbN OE GB R3 R2 F3
      rcases qer with ⟨hbad, rfl⟩ | ⟨hbad, s, rfl⟩
      · go_wp2_with fail
        refine ⟨⟨k + 1, _, rfl, rfl, hlt, Lib.hid ?_, Lib.hid ?_, FF⟩, by simp [intOf]; omega⟩
        · rw [STEP.out.1]; exact OF.out
        · rw [STEP.out.2, hbad, Bool.or_false]; exact HRB.out
      · go_wp2_with fail
        refine ⟨⟨k + 1, _, rfl, rfl, hlt, Lib.hid ?_, Lib.hid ?_, Lib.hid ?_⟩, by simp [intOf]; omega⟩
        · rw [STEP.out.1]; exact own_far OF.out (set_far _ _ _ _) (fun i hi e => by have := (OF.out.lt i hi).1; have := HNB.out; omega)
        · rw [STEP.out.2, hbad, Bool.or_true, Bool.or_true]
          exact HRB.out.err (Er.fault s)
        · exact FF.out.trans (set_far _ _ _ _) (fun _ _ e => e)
    · have i1 : ¬ (k : Int) < (z : Int) := by omega
      obtain rfl : k = z := by omega
      have ht : l.take k = l := by rw [HZ.out]; exact List.take_length
      rw [ht] at OD RB
      go_wp2_with fail
      go_ret
      exact ⟨_, rfl, by have := row_mono OD.out F1.out.size; rw [List.length_map] at this; exact this, RB.out, F1.out.trans FB.out (fun _ _ e => e)⟩
set_option maxRecDepth 100000 in
set_option maxHeartbeats 4000000 in
theorem rowsC_any {M b : Nat} {r : Rd} {w : World} (h : Rm M w b r) (hM : M ≤ w.heap.size) (hl : Laid2 w) (hg : 0 ≠ b) :
    Calls Tryz.prog 76 #[.pointer (some ⟨b, 0, none⟩), .func (.func 77) #[] #[]] w fun e w' => ∃ v, e = .returned v ∧ w'.ownsRow w.heap.size 54 3 v (rdRows chgR r).1.length (flatC (rdRows chgR r).1) ∧ Rm M w' b (rdRows chgR r).2 ∧ Far (fun i => i = b) w w' := by
  have LR := Lib.hid (rdList_any h hl hg)
  have hlt := h.lt
  have hgl := hl.lt
  have HLT := Lib.hid hlt
  have HGL := Lib.hid hgl
  have HL := Lib.hid hl
  have HG := Lib.hid hg
  have HM := Lib.hid hM
  unfold rdRows
  obtain ⟨⟨l, r1⟩, hl1⟩ : ∃ z, z = rdList r := ⟨_, rfl⟩
  rw [← hl1] at LR
  rw [← hl1]
  clear h hM hl hg hlt hgl hl1
  simp only at LR ⊢
  go_enter Tryz.func76, Tryz.ntmps76
  go_upto_region 2 with (fail)
  go_wp2_with (go_at_call 93; refine LR.out.mono ?_; rintro e w1 ⟨vl, rfl, hs, hown, hsm, hfew, hr, hf⟩; obtain ⟨A, c, rfl, hac, hA⟩ := hs; skip)
  obtain ⟨z, hz⟩ : ∃ z, z = l.length := ⟨_, rfl⟩
  have SS : Hid (Ss w1 (.slice A l.length c) l) := Lib.hid ⟨A, c, rfl, hac, hA⟩
  have HO := Lib.hid hown
  have SM := Lib.hid hsm
  have R1 := Lib.hid hr
  have F1 := Lib.hid hf
  have n1 : z ≤ 999999 := by omega
  have LD1 := Lib.hid (HL.out.far hf (fun e => HG.out e))
  rw [← hz] at SS HO ⊢
  have HZ := Lib.hid hz
  clear hown hsm hfew hr hf hac hA hz
  go_loopw [5, 12] (fun v5 vi wr => ∃ (k : Nat) (u5 : Value), u5 = v5 ∧ vi = .int .i64 (k : Int) ∧ k ≤ z ∧ Hid (wr.ownsRow w1.heap.size 54 3 v5 ((l.take k).map (fun x => (chgR (newR x)).1)).length (flatC ((l.take k).map (fun x => (chgR (newR x)).1)))) ∧ Hid (Rm M wr b ⟨r1.items, r1.bad || (l.take k).any (fun x => (chgR (newR x)).2.bad)⟩) ∧ Hid (Far (fun i => i = b) w1 wr)) (fun _ vi _ => z - (intOf vi).toNat)
  case atStart => exact ⟨0, _, rfl, rfl, Nat.zero_le _, Lib.hid ⟨rfl, .inl ⟨rfl, rfl⟩⟩, Lib.hid (by simpa using R1.out), Lib.hid (Far.refl _ _)⟩
  case round =>
    obtain ⟨k, v5, rfl, rfl, hk, OD, RB, FB⟩ := hrel
    by_cases hlt : k < z
    · obtain ⟨x, hx⟩ : ∃ x, l[k]? = some x := ⟨_, List.getElem?_eq_getElem (by rw [← HZ.out]; exact hlt)⟩
      have hss : Ss wr (.slice A z c) l := SS.out.far FB.out (fun i hi e => by have := (HO.out i hi).1; have := HLT.out; omega)
      obtain ⟨bk, o, c', hv, hbl, d0⟩ := hss.at_ hx
      simp only [Value.slice.injEq] at hv
      obtain ⟨rfl, -, -⟩ := hv
      have STEP := Lib.hid (rows_step (fun x => (chgR (newR x)).1) (fun x => (chgR (newR x)).2.bad) hx)
      have LDr := Lib.hid (LD1.out.far FB.out (fun e => HG.out e))
      have NR := Lib.hid (newReader_any x wr (SM.out x (List.mem_of_getElem? hx)) LDr.out)
      have SZ := Lib.hid (Nat.le_trans F1.out.size FB.out.size)
      have VB : Hid (∀ i, v5.ownBlock = some i → w1.heap.size ≤ i ∧ i < wr.heap.size) := Lib.hid (fun i hi => OD.out.lt i hi)
      obtain ⟨y, hy⟩ : ∃ y, y = chgR (newR x) := ⟨_, rfl⟩
      have EV := Lib.hid (fun M' b' W => chgR_any (M := M') (b := b') (w := W) (r := newR x))
      simp only [← hy] at STEP EV
      obtain ⟨ey, ry⟩ := y
      simp only at STEP EV
      have i1 : (k : Int) < (z : Int) := by omega
      have wk : IntKind.i64.wrap ((k : Int) + 1) = (k : Int) + 1 := IntWalk.i64_in _ (by omega)
      clear hx hbl hy hss
      go_upto_region 5 with (fail)
      go_upto_region 6 with (go_at_call 65; refine NR.out.mono ?_; rintro e w2 ⟨q, nv, nu, rfl, hN⟩; have N2 := Lib.hid hN; have R2 := Lib.hid (EV.out _ q w2 hN.rm (Nat.le_refl _) (LDr.out.on hN.bel (Nat.le_refl _)) (by have := hN.ge; have := SZ.out; have := HGL.out; omega)); clear hN)
      go_upto_region 7 with (first
        | (go_at_call 77; refine R2.out.mono ?_; rintro e w3 ⟨rfl, hr3, hf3⟩; have R3 := Lib.hid hr3; have F3 := Lib.hid hf3; have BA3 := Lib.hid (N2.out.bel.trans (hf3.below (B := wr.heap.size) (N2.out.bel.size) (fun i e => by rw [e]; exact N2.out.ge))); have OD3 := Lib.hid (own_below OD.out BA3.out); clear hr3 hf3)
        | (at_builtin; refine wpList_append_own (k := 3) (T := 54) (S := 28) elemChgF infoChgF rfl (by decide) (by decide) rfl _ _ rfl rfl w1.heap.size _ _ (flatC ((l.take k).map (fun x => (chgR (newR x)).1))) w3.heap.size 0 1 1 [.string ey.k, .string ey.v, .bool ey.gone] rfl rfl (World.ownsRow.alloc OD3.out _) rfl (new_cells w3 54 [.string ey.k, .string ey.v, .bool ey.gone]) (by simp [Value.oneCell']) (by simp; omega) (by simp; have := BA3.out.size; have := FB.out.size; omega) ?_; intro v5' wb hown hgr _; have OE := Lib.hid hown; have GB := Lib.hid hgr; clear hown hgr))
      have F4 : Hid (Far (fun i => v5.ownBlock = some i) w3 wb) := Lib.hid (((Far.refl (fun i => v5.ownBlock = some i) w3).alloc (.cells [.string ey.k, .string ey.v, .bool ey.gone].toArray 54)).grown GB.out (fun i _ e => e))
      have hq : ¬ v5.ownBlock = some q := fun e => by have := (VB.out q e).2; have := N2.out.ge; omega
      have hbN : b < w1.heap.size := Nat.lt_of_lt_of_le HLT.out F1.out.size
      have RB4 : Rm M wb b ⟨r1.items, r1.bad || (l.take k).any (fun x => (chgR (newR x)).2.bad)⟩ := (RB.out.below BA3.out).far F4.out (fun e => by have := (VB.out b e).1; omega) (fun i hi _ e => by have := (VB.out i e).1; have := HM.out; have := F1.out.size; omega)
      have HRB := Lib.hid RB4
      have OF := Lib.hid (show wb.ownsRow w1.heap.size 54 3 v5' ((l.take k).map (fun x => (chgR (newR x)).1) ++ [ey]).length (flatC ((l.take k).map (fun x => (chgR (newR x)).1) ++ [ey])) from by rw [flatC_append, List.length_append]; exact OE.out)
      have FF := Lib.hid ((FB.out.call BA3.out).trans F4.out (fun i hi e => by have := (VB.out i e).1; omega))
      have HNB := Lib.hid hbN
      obtain ⟨qv, qe, qb, -, -, -, qer, -⟩ := R3.out
      have QB := qb.far F4.out hq
      have c1 := QB.cell 1
      obtain ⟨bv, be, bb, -⟩ := RB4
      have d1 := bb.cell 1
      have g1 := bb.frozen 1
      simp only [List.getElem?_toArray, List.getElem?_cons_succ, List.getElem?_cons_zero] at c1 d1
      clear QB qb bb hq hbN OE GB R3 R2 F3
      rcases qer with ⟨hbad, rfl⟩ | ⟨hbad, s, rfl⟩
      · go_wp2_with fail
        refine ⟨⟨k + 1, _, rfl, rfl, hlt, Lib.hid ?_, Lib.hid ?_, FF⟩, by simp [intOf]; omega⟩
        · rw [STEP.out.1]; exact OF.out
        · rw [STEP.out.2, hbad, Bool.or_false]; exact HRB.out
      · go_wp2_with fail
        refine ⟨⟨k + 1, _, rfl, rfl, hlt, Lib.hid ?_, Lib.hid ?_, Lib.hid ?_⟩, by simp [intOf]; omega⟩
        · rw [STEP.out.1]; exact own_far OF.out (set_far _ _ _ _) (fun i hi e => by have := (OF.out.lt i hi).1; have := HNB.out; omega)
        · rw [STEP.out.2, hbad, Bool.or_true, Bool.or_true]
          exact HRB.out.err (Er.fault s)
        · exact FF.out.trans (set_far _ _ _ _) (fun _ _ e => e)
    · have i1 : ¬ (k : Int) < (z : Int) := by omega
      obtain rfl : k = z := by omega
      have ht : l.take k = l := by rw [HZ.out]; exact List.take_length
      rw [ht] at OD RB
      go_wp2_with fail
      go_ret
      exact ⟨_, rfl, by have := row_mono OD.out F1.out.size; rw [List.length_map] at this; exact this, RB.out, F1.out.trans FB.out (fun _ _ e => e)⟩
end Go.Proofs.YtlbebdkockejcaaGreatDoor
