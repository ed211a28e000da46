/-
  CanonChanges: the walk.
-/
import Derived.Test.YtfeonjiiijdibaaGreatDoorCanDiffs
import Derived.Test.YtfeonjiiijdibaaGreatDoorGaMdR2
import Derived.Test.YtfeonjiiijdibaaGreatDoorMdlRefD
namespace Go.Proofs.YtfeonjiiijdibaaGreatDoor
open Go.RowKit Go.Proofs.Nod Go.Proofs.Can
open Go.Proofs.Mdl hiding e0
set_option linter.unusedVariables false
set_option linter.unusedSimpArgs false
theorem applyM_few (l : List Ent) (cs : List Chg) : (applyM l cs).1.length ≤ 1000 := by
  by_cases h : (applyM l cs).2 = 0
  · obtain ⟨_, _, h1, h2⟩ := applyM_good h
    rw [h1]
    have := h2.few
    omega
  · rw [applyM_none h]
    exact Nat.zero_le _
theorem diffM_few {a b : List Ent} : (diffM a b).length ≤ 1000 := by
  by_cases h : checkN a = 0 ∧ checkN b = 0
  · have := diffM_lenC (good_iff.1 h.1) (good_iff.1 h.2)
    omega
  · unfold diffM
    rw [if_neg h]
    exact Nat.zero_le _
set_option maxRecDepth 100000 in
set_option maxHeartbeats 2000000 in
theorem rfind_any {w : World} {v : Value} {l : List Ent} (h : Es w v l) (hl : l.length ≤ 1000) (key : ByteArray) :
    Calls Tryz.prog 26 #[v, .string key] w fun e w' => e = .returned (findV (getE l key)) ∧ Below w.heap.size w w' := by
  obtain ⟨A, c, rfl⟩ := h.shape
  obtain ⟨z, hz⟩ : ∃ z, z = l.length := ⟨_, rfl⟩
  rw [← hz] at h hl ⊢
  have HE := Lib.hid h
  have HN := Lib.hid hz
  clear h hz
  go_enter Tryz.func26, Tryz.ntmps26
  go_wp2_with fail
  go_loopw [6] (fun vi wr => ∃ k : Nat, vi = .int .i64 (k : Int) ∧ k ≤ z ∧ Hid (Below w.heap.size w wr) ∧ Hid (getE (l.take k) key = none)) (fun vi _ => z - (intOf vi).toNat)
  case atStart => exact ⟨0, rfl, Nat.zero_le _, Lib.hid (Below.refl _ _), Lib.hid rfl⟩
  case round =>
    obtain ⟨k, rfl, hk, HB, NO⟩ := hrel
    by_cases hlt : k < z
    · obtain ⟨x, hx⟩ : ∃ x, l[k]? = some x := ⟨_, List.getElem?_eq_getElem (by rw [← HN.out]; exact hlt)⟩
      obtain ⟨b, o, c', hv, hbl, d0, d1⟩ := (HE.out.below HB.out).at_ hx
      simp only [Value.slice.injEq] at hv
      obtain ⟨rfl, -, -⟩ := hv
      have GT := Lib.hid (getE_take hx NO.out)
      have i1 : (k : Int) < (z : Int) := by omega
      have wk : IntKind.i64.wrap ((k : Int) + 1) = (k : Int) + 1 := IntWalk.i64_in _ (by omega)
      obtain ⟨ek, ev⟩ := x
      simp only at d0 d1 GT
      clear hx
      by_cases he : ek = key
      · have be : (ek.toList == key.toList) = true := by rw [bytes_eqF]; exact decide_eq_true he
        have HF : Hid (getE l key = some ev) := Lib.hid (by rw [GT.out.1, if_pos he])
        clear he
        go_wp2_with fail
        go_ret2
        exact ⟨by rw [HF.out]; rfl, HB.out⟩
      · have be : (ek.toList == key.toList) = false := by rw [bytes_eqF]; exact decide_eq_false he
        have HF := Lib.hid (GT.out.2 he)
        clear he
        go_wp2_with fail
        exact ⟨⟨k + 1, rfl, hlt, HB, HF⟩, by simp [intOf]; omega⟩
    · have i1 : ¬ (k : Int) < (z : Int) := by omega
      obtain rfl : k = z := by omega
      have NO2 : Hid (getE l key = none) := Lib.hid (by have := NO.out; rwa [HN.out, List.take_length] at this)
      go_wp2_with fail
      go_ret2
      exact ⟨by rw [NO2.out]; rfl, HB.out⟩
set_option maxRecDepth 100000 in
set_option maxHeartbeats 8000000 in
theorem changes_walk (w : World) (hL : LaidN w) (v0 : Value) (l : List Ent) (S0 : Es w v0 l) (v1 : Value) (cs : List Chg) (S1 : Cs w v1 cs) (v2 : Value) (m : List Ent) (S2 : Es w v2 m) (k : ByteArray) :
    Calls Tryz.prog 4 #[v0, v1, v2, .string k] w fun e w' => e = .returned (.bool true) ∧ Below w.heap.size w w' := by
  obtain ⟨A0, c0, rfl⟩ := S0.shape
  obtain ⟨A1, c1, rfl⟩ := S1.shape
  obtain ⟨A2, c2, rfl⟩ := S2.shape
  have WK := Lib.hid (cworks_any w hL)
  have FL := Lib.hid (fun W (hW : Below w.heap.size w W) => cfewE_any (S0.below hW))
  have FC := Lib.hid (fun W (hW : Below w.heap.size w W) => cfewC_any (S1.below hW))
  have FM := Lib.hid (fun W (hW : Below w.heap.size w W) => cfewE_any (S2.below hW))
  have AP := Lib.hid (fun W (hW : Below w.heap.size w W) (h1 : l.length ≤ 1000) (h2 : cs.length ≤ 1000) => apply_any (S0.below hW) (S1.below hW) h1 h2)
  have RP := Lib.hid (fun W (hW : Below w.heap.size w W) (h1 : l.length ≤ 1000) (h2 : cs.length ≤ 900) => rapply_any (S0.below hW).all (S1.below hW) h1 h2)
  have FD := Lib.hid (fun W (hW : Below w.heap.size w W) (h1 : l.length ≤ 1000) => find_any (S0.below hW) h1 k)
  have RD := Lib.hid (fun W (hW : Below w.heap.size w W) (h1 : l.length ≤ 1000) => rfind_any (S0.below hW) h1 k)
  have DF := Lib.hid (fun W (hW : Below w.heap.size w W) (h1 : l.length ≤ 1000) (h2 : m.length ≤ 1000) => diff_any (S0.below hW) (S2.below hW) h1 h2)
  have DR := Lib.hid (fun W (hW : Below w.heap.size w W) (h1 : l.length ≤ 1000) (h2 : m.length ≤ 1000) => rdiff_any (S0.below hW) (S2.below hW) h1 h2)
  have SE := Lib.hid (fun W va vb (h1 : Es W va (applyM l cs).1) (h2 : Es W vb (applyM l cs).1) => sameE_any h1 h2 (applyM_few l cs))
  have SC := Lib.hid (fun W va vb (h1 : Cs W va (diffM l m)) (h2 : Cs W vb (diffM l m)) => sameC_any h1 h2 diffM_few)
  simp only [decide_true] at SE SC
  rw [findV_eq] at FD RD
  obtain ⟨z0, hz0⟩ : ∃ z, z = l.length := ⟨_, rfl⟩
  obtain ⟨z1, hz1⟩ : ∃ z, z = cs.length := ⟨_, rfl⟩
  obtain ⟨z2, hz2⟩ : ∃ z, z = m.length := ⟨_, rfl⟩
  rw [← hz0] at FL AP RP FD RD DF DR ⊢
  rw [← hz1] at FC AP RP ⊢
  rw [← hz2] at FM DF DR ⊢
  generalize diffM l m = ds at *
  generalize getE l k = o at *
  obtain ⟨ap, hap⟩ : ∃ x, x = applyM l cs := ⟨_, rfl⟩
  rw [← hap] at AP RP SE
  clear hap
  obtain ⟨am, ae⟩ := ap
  dsimp only at AP RP SE
  clear S0 S1 S2 hL hz0 hz1 hz2
  go_enter Tryz.func4, Tryz.ntmps4
  go_wp2_with fail
  refine WK.out.mono ?_
  rintro e w1 ⟨rfl, hb⟩
  have B1 := Lib.hid hb
  clear hb WK
  go_wp2_with fail
  refine (FL.out _ B1.out).mono ?_
  rintro e w2 ⟨⟨bf, rfl, hbf, rfl⟩⟩
  have HBF := Lib.hid hbf
  clear hbf FL
  cases bf with
  | false =>
    clear FC FM AP RP FD RD DF DR SE SC
    go_wp2_with fail
    go_ret
    exact ⟨rfl, B1.out⟩
  | true =>
  have f0 : Hid (z0 ≤ 45) := Lib.hid (HBF.out rfl)
  clear HBF
  go_wp2_with fail
  refine (FC.out _ B1.out).mono ?_
  rintro e w2 ⟨⟨bf, rfl, hbf, rfl⟩⟩
  have HBF := Lib.hid hbf
  clear hbf FC
  cases bf with
  | false =>
    clear FM AP RP FD RD DF DR SE SC
    go_wp2_with fail
    go_ret
    exact ⟨rfl, B1.out⟩
  | true =>
  have f1 : Hid (z1 ≤ 45) := Lib.hid (HBF.out rfl)
  clear HBF
  go_wp2_with fail
  refine (FM.out _ B1.out).mono ?_
  rintro e w2 ⟨⟨bf, rfl, hbf, rfl⟩⟩
  have HBF := Lib.hid hbf
  clear hbf FM
  cases bf with
  | false =>
    clear AP RP FD RD DF DR SE SC
    go_wp2_with fail
    go_ret
    exact ⟨rfl, B1.out⟩
  | true =>
  have f2 : Hid (z2 ≤ 45) := Lib.hid (HBF.out rfl)
  clear HBF
  by_cases hk : (k.size : Int) > 100
  · clear AP RP FD RD DF DR SE SC
    go_wp2_with fail
    go_ret
    exact ⟨rfl, B1.out⟩
  go_wp2_with fail
  refine (AP.out _ B1.out (by have := f0.out; omega) (by have := f1.out; omega)).mono ?_
  rintro e w3 ⟨v3, rfl, hes, hb⟩
  obtain ⟨A3, c3, hv3⟩ := hes.toEs.shape
  subst hv3
  have M3 := Lib.hid hes.toEs
  have B3 := Lib.hid (B1.out.trans (hb.mono B1.out.size))
  clear hes hb AP B1
  go_wp2_with fail
  refine (RP.out _ B3.out (by have := f0.out; omega) (by have := f1.out; omega)).mono ?_
  rintro e w4 ⟨v4, rfl, hes, hb⟩
  obtain ⟨A4, c4, hv4⟩ := hes.toEs.shape
  subst hv4
  have N4 := Lib.hid hes.toEs
  have M4 := Lib.hid (M3.out.below hb)
  have B4 := Lib.hid (B3.out.trans (hb.mono B3.out.size))
  clear hes hb RP B3 M3
  go_wp2_with fail
  refine (FD.out _ B4.out (by have := f0.out; omega)).mono ?_
  rintro e w5 ⟨rfl, hb⟩
  have N5 := Lib.hid (N4.out.below hb)
  have M5 := Lib.hid (M4.out.below hb)
  have B5 := Lib.hid (B4.out.trans (hb.mono B4.out.size))
  clear hb FD B4 M4 N4
  go_wp2_with fail
  refine (RD.out _ B5.out (by have := f0.out; omega)).mono ?_
  rintro e w6 ⟨rfl, hb⟩
  have N6 := Lib.hid (N5.out.below hb)
  have M6 := Lib.hid (M5.out.below hb)
  have B6 := Lib.hid (B5.out.trans (hb.mono B5.out.size))
  clear hb RD B5 M5 N5
  go_wp2_with fail
  refine (SE.out _ _ _ M6.out N6.out).mono ?_
  rintro e w7 ⟨rfl, hb⟩
  have B7 := Lib.hid (B6.out.trans (hb.mono B6.out.size))
  clear hb SE B6 M6 N6
  go_wp2_with fail
  refine (DF.out _ B7.out (by have := f0.out; omega) (by have := f2.out; omega)).mono ?_
  rintro e w8 ⟨v8, rfl, hcs, hb⟩
  obtain ⟨A8, c8, hv8⟩ := hcs.toCs.shape
  subst hv8
  have D8 := Lib.hid hcs.toCs
  have B8 := Lib.hid (B7.out.trans (hb.mono B7.out.size))
  clear hb hcs DF B7
  go_wp2_with fail
  refine (DR.out _ B8.out (by have := f0.out; omega) (by have := f2.out; omega)).mono ?_
  rintro e w9 ⟨v9, rfl, hcs, hb⟩
  obtain ⟨A9, c9, hv9⟩ := hcs.toCs.shape
  subst hv9
  have E9 := Lib.hid hcs.toCs
  have D9 := Lib.hid (D8.out.below hb)
  have B9 := Lib.hid (B8.out.trans (hb.mono B8.out.size))
  clear hb hcs DR B8 D8
  go_wp2_with fail
  refine (SC.out _ _ _ D9.out E9.out).mono ?_
  rintro e w10 ⟨rfl, hb⟩
  have B10 := Lib.hid (B9.out.trans (hb.mono B9.out.size))
  clear hb SC B9 D9 E9
  go_wp2_with fail
  go_ret
  exact ⟨rfl, B10.out⟩
end Go.Proofs.YtfeonjiiijdibaaGreatDoor
