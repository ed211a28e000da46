/-
  Merged: MdlRefO, MdlRefP.
-/
import Derived.Test.YtfeonjiiijdibaaGreatDoorGaMdR1
import Derived.Test.YtfeonjiiijdibaaGreatDoorGaMdC
import Derived.Test.YtfeonjiiijdibaaGreatDoorGaMdB
import Derived.Test.YtfeonjiiijdibaaGreatDoorGaMdA
namespace Go.Proofs.Mdl
set_option linter.unusedVariables false
set_option linter.unusedSimpArgs false
def keepE (e : Ent) (c : Chg) : List Ent := if e.k = c.k then [] else [e]
def oneF : List Ent → Bool → Chg → List Ent
  | [], put, c => if put then [] else [⟨c.k, c.v⟩]
  | e :: r, put, c => if (!put && !ltB e.k c.k) then ⟨c.k, c.v⟩ :: (keepE e c ++ oneF r true c) else keepE e c ++ oneF r put c
theorem oneF_cons (e : Ent) (r : List Ent) (put : Bool) (c : Chg) : oneF (e :: r) put c = if (!put && !ltB e.k c.k) then ⟨c.k, c.v⟩ :: (keepE e c ++ oneF r true c) else keepE e c ++ oneF r put c := rfl
theorem oneF_nil (put : Bool) (c : Chg) : oneF [] put c = if put then [] else [⟨c.k, c.v⟩] := rfl
theorem oneF_true : ∀ (l : List Ent) (c : Chg), oneF l true c = delE l c.k
  | [], c => rfl
  | e :: r, c => by
    have ih := oneF_true r c
    show (if (!true && !ltB e.k c.k) then _ else keepE e c ++ oneF r true c) = _
    rw [if_neg (by simp), ih]
    unfold keepE delE
    rw [List.filter_cons]
    by_cases h : e.k = c.k
    · rw [if_pos h, if_neg (by simp [h])]; rfl
    · rw [if_neg h, if_pos (by simp [h])]; rfl
theorem delE_ne {l : List Ent} {k : ByteArray} (h : ∀ e ∈ l, ¬ e.k = k) : delE l k = l := by
  unfold delE
  exact List.filter_eq_self.2 (fun e he => by simpa using h e he)
theorem oneF_false : ∀ {l : List Ent} (c : Chg), Up l → oneF l false c = putE l c.k c.v
  | [], c, _ => rfl
  | e :: r, c, h => by
    obtain ⟨h1, h2⟩ := List.pairwise_cons.1 h
    have ih := oneF_false c h2
    show (if (!false && !ltB e.k c.k) then ⟨c.k, c.v⟩ :: (keepE e c ++ oneF r true c) else keepE e c ++ oneF r false c) = _
    unfold putE
    by_cases hl : ltB e.k c.k = true
    · rw [if_pos hl, if_neg (by simp [hl]), ih]
      unfold keepE
      rw [if_neg (ltB_ne hl)]
      rfl
    · rw [if_neg hl, if_pos (by simp [hl]), oneF_true]
      unfold keepE
      by_cases he : e.k = c.k
      · rw [if_pos he, if_pos he, delE_ne (fun x hx => fun e2 => by have := ltB_ne (h1 x hx); exact this (he.trans e2.symm))]
        rfl
      · rw [if_neg he, if_neg he]
        have hgt : ltB c.k e.k = true := by
          cases hc : ltB c.k e.k with
          | true => rfl
          | false => exact absurd (ltB_conn (by simpa using hl) hc) he
        rw [delE_ne (fun x hx => fun e2 => by have := ltB_trans hgt (h1 x hx); rw [e2] at this; rw [ltB_irrefl] at this; cases this)]
        rfl
theorem oneF_chg {l : List Ent} (c : Chg) (h : Up l) : oneF l c.gone c = chgE l c := by
  unfold chgE
  cases hg : c.gone with
  | true => rw [if_pos rfl, oneF_true]
  | false => rw [if_neg (by simp), oneF_false c h]
theorem oneF_len : ∀ (l : List Ent) (put : Bool) (c : Chg), (oneF l put c).length ≤ l.length + 1
  | [], put, c => by unfold oneF; split <;> simp
  | e :: r, put, c => by
    unfold oneF
    have hk : (keepE e c).length ≤ 1 := by unfold keepE; split <;> simp
    by_cases h : (!put && !ltB e.k c.k) = true
    · rw [if_pos h, oneF_true]
      have := List.length_filter_le (fun x : Ent => decide (¬ x.k = c.k)) r
      have h2 : (delE r c.k).length ≤ r.length := this
      simp only [List.length_cons, List.length_append]
      omega
    · rw [if_neg h]
      have := oneF_len r put c
      simp only [List.length_cons, List.length_append]
      omega
end Go.Proofs.Mdl
namespace Go.Proofs.YtfeonjiiijdibaaGreatDoor
open Go.RowKit Go.Proofs.Mdl
set_option linter.unusedVariables false
set_option linter.unusedSimpArgs false
theorem es_own {w : World} {base : Nat} {v : Value} {l : List Ent} (h : w.ownsRow base 61 2 v l.length (flatE l)) (x : Ent) {v' : Value} {w' : World} (k : w'.ownsRow base 61 2 v' (l.length + 1) (flatE l ++ [.string x.k, .string x.v])) : w'.ownsRow base 61 2 v' (l ++ [x]).length (flatE (l ++ [x])) := by
  rw [flatE_append, List.length_append]
  exact k
set_option maxRecDepth 100000 in
set_option maxHeartbeats 4000000 in
theorem one_any {w : World} {vl : Value} {l : List Ent} {ch : Chg} (h : Es w vl l) (hl : l.length ≤ 2000) (hs : ∀ e ∈ l, e.k.size ≤ 1000000) (hc : ch.k.size ≤ 1000000) :
    Calls Tryz.prog 57 #[vl, .agg #[.string ch.k, .string ch.v, .bool ch.gone]] w fun e w' => ∃ v', e = .returned v' ∧ EsN (fun b => w.heap.size ≤ b) w' v' (oneF l ch.gone ch) ∧ Below w.heap.size w w' := by
  have HE := Lib.hid h
  obtain ⟨A, c, rfl⟩ := h.shape
  obtain ⟨z, hz⟩ : ∃ z, z = l.length := ⟨_, rfl⟩
  have HZ := Lib.hid hz
  have HS := Lib.hid hs
  rw [← hz] at HE ⊢
  obtain ⟨ck, cv, cg⟩ := ch
  simp only at hc ⊢
  clear h hs
  have z1 : z ≤ 2000 := by omega
  clear hz
  have GOAL := Lib.hid (rfl : oneF l cg ⟨ck, cv, cg⟩ = oneF l cg ⟨ck, cv, cg⟩)
  obtain ⟨res, hres⟩ : ∃ res, res = oneF l cg ⟨ck, cv, cg⟩ := ⟨_, rfl⟩
  have HR := Lib.hid hres
  rw [← hres]
  clear GOAL hres
  go_enter Tryz.func57, Tryz.ntmps57
  go_upto_region 1 with (fail)
  have bl := (Below.refl w.heap.size w).alloc (Nat.le_refl _) (.cells #[.string ck, .string cv, .bool cg] 58)
  have BX := Lib.hid (Blk.new w 58 #[.string ck, .string cv, .bool cg])
  have HE1 := Lib.hid (HE.out.below bl)
  have B1 := Lib.hid bl
  have PW : Hid (w.heap.size ≤ w.heap.size) := Lib.hid (Nat.le_refl _)
  clear bl
  generalize w.alloc (.cells #[.string ck, .string cv, .bool cg] 58) = w1 at *
  obtain ⟨p, hp⟩ : ∃ p, p = w.heap.size := ⟨_, rfl⟩
  rw [← hp] at BX ⊢
  have HP := Lib.hid hp
  clear hp
  have CX : Hid (∀ W, Below w1.heap.size w1 W → W.cell? ⟨p, 0, none⟩ = some (.string ck) ∧ W.cell? ⟨p, 1, none⟩ = some (.string cv) ∧ W.cell? ⟨p, 2, none⟩ = some (.bool cg)) := Lib.hid (fun W hW => ⟨by simpa using (BX.out.below hW).cell 0, by simpa using (BX.out.below hW).cell 1, by simpa using (BX.out.below hW).cell 2⟩)
  obtain ⟨x0, x1, x2⟩ := CX.out _ (Below.refl _ _)
  go_wp2_with fail
  go_loopw [5, 6, 7] (fun v5 v6 vi wr => ∃ (k : Nat) (put : Bool) (done : List Ent), vi = .int .i64 (k : Int) ∧ v6 = .bool put ∧ k ≤ z ∧ Hid (done.length ≤ 2 * k) ∧ Hid (wr.ownsRow w1.heap.size 61 2 v5 done.length (flatE done)) ∧ Hid (done ++ oneF (l.drop k) put ⟨ck, cv, cg⟩ = res) ∧ Hid (Bl w1.heap.size w1 wr)) (fun _ _ vi _ => z - (intOf vi).toNat)
  case atStart => exact ⟨0, cg, [], rfl, rfl, Nat.zero_le _, Lib.hid (Nat.le_refl _), Lib.hid ⟨rfl, .inl ⟨rfl, rfl⟩⟩, Lib.hid (by rw [HR.out]; rfl), Lib.hid (Bl.start w1)⟩
  case round =>
    clear x0 x1 x2
    obtain ⟨k, put, done, rfl, rfl, hk, DL, OW, DD, BB⟩ := hrel
    obtain ⟨Ao, co, hv5⟩ := own_shape OW.out
    subst hv5
    have wk : IntKind.i64.wrap ((k : Int) + 1) = (k : Int) + 1 := IntWalk.i64_in _ (by omega)
    obtain ⟨x0, x1, x2⟩ := CX.out _ BB.out.1
    by_cases hlt : k < z
    · obtain ⟨x, hx⟩ : ∃ x, l[k]? = some x := ⟨_, List.getElem?_eq_getElem (by rw [← HZ.out]; exact hlt)⟩
      have SX := Lib.hid (HS.out x (List.mem_of_getElem? hx))
      have HE2 := Lib.hid (HE1.out.below BB.out.1)
      obtain ⟨b, o, c', hv, hbl, d0, d1⟩ := HE2.out.at_ hx
      simp only [Value.slice.injEq] at hv
      obtain ⟨rfl, -, -⟩ := hv
      have i1 : (k : Int) < (z : Int) := by omega
      have DR : Hid (l.drop k = x :: l.drop (k + 1)) := Lib.hid (by
        obtain ⟨h1, h2⟩ := List.getElem?_eq_some_iff.1 hx
        rw [List.drop_eq_getElem_cons h1, h2])
      have CE : Hid (∀ W, Below w1.heap.size w1 W → W.cell? ⟨b, o + k * 2, none⟩ = some (.string x.k) ∧ W.cell? ⟨b, o + k * 2 + 1, none⟩ = some (.string x.v)) := Lib.hid (fun W hW => by
        obtain ⟨b', o', c'', hv, _, e0, e1⟩ := (HE1.out.below hW).at_ hx
        simp only [Value.slice.injEq, Option.some.injEq, Addr.mk.injEq] at hv
        obtain ⟨⟨rfl, rfl, -⟩, -, -⟩ := hv
        exact ⟨e0, e1⟩)
      obtain ⟨ek, ev⟩ := x
      simp only at d0 d1 CE SX
      clear hx hbl
      cases put with
      | true =>
        by_cases he : ek = ck
        · have E1 : (ek.toList == ck.toList) = true := by rw [he]; simp
          have E2 : (ek.toList != ck.toList) = false := by rw [he]; simp
          have E3 : ek.toList = ck.toList := by rw [he]
          have DD2 : Hid (done ++ oneF (l.drop (k + 1)) true ⟨ck, cv, cg⟩ = res) := Lib.hid (by
            rw [← DD.out, DR.out, oneF_cons, if_neg (by simp)]
            unfold keepE
            rw [if_pos he]
            simp)
          clear he
          go_wp2_with fail
          go_quiet (fail)
          have OWn := Lib.hid (own_drewN OW.out nq)
          have BBn := Lib.hid (BB.out.drewN nq)
          obtain ⟨y0, y1, y2⟩ := CX.out _ BBn.out.1
          obtain ⟨g0, g1⟩ := CE.out _ BBn.out.1
          generalize wr.drewN nq = w3 at *
          clear d0 d1 x0 x1 x2
          go_wp2_with fail
          go_quiet (fail)
          have OWm := Lib.hid (own_drewN OWn.out nq)
          have BBm := Lib.hid (BBn.out.drewN nq)
          clear y0 y1 y2 g0 g1
          obtain ⟨y0, y1, y2⟩ := CX.out _ BBm.out.1
          obtain ⟨g0, g1⟩ := CE.out _ BBm.out.1
          generalize w3.drewN nq = w4 at *
          go_wp2_with fail
          exact ⟨⟨k + 1, true, _, by go_num, rfl, by omega, Lib.hid (by have := DL.out; (try simp only [List.length_append, List.length_cons, List.length_nil]); omega), OWm, DD2, BBm⟩, by simp [intOf]; omega⟩
        · have E1 : (ek.toList == ck.toList) = false := by simp; exact fun e => he (tl_iff.1 e)
          have E2 : (ek.toList != ck.toList) = true := by simp; exact fun e => he (tl_iff.1 e)
          have E3 : ¬ ek.toList = ck.toList := fun e => he (tl_iff.1 e)
          have DD2 : Hid (done ++ [(⟨ek, ev⟩ : Ent)] ++ oneF (l.drop (k + 1)) true ⟨ck, cv, cg⟩ = res) := Lib.hid (by
            rw [← DD.out, DR.out, oneF_cons, if_neg (by simp)]
            unfold keepE
            rw [if_neg he]
            simp)
          clear he
          go_wp2_with fail
          go_quiet (fail)
          have OWn := Lib.hid (own_drewN OW.out nq)
          have BBn := Lib.hid (BB.out.drewN nq)
          obtain ⟨y0, y1, y2⟩ := CX.out _ BBn.out.1
          obtain ⟨g0, g1⟩ := CE.out _ BBn.out.1
          generalize wr.drewN nq = w3 at *
          clear d0 d1 x0 x1 x2
          go_wp2_with fail
          go_quiet (fail)
          have OWm := Lib.hid (own_drewN OWn.out nq)
          have BBm := Lib.hid (BBn.out.drewN nq)
          clear y0 y1 y2 g0 g1
          obtain ⟨y0, y1, y2⟩ := CX.out _ BBm.out.1
          obtain ⟨g0, g1⟩ := CE.out _ BBm.out.1
          generalize w3.drewN nq = w4 at *
          have BA := Lib.hid (BBm.out.alloc (.cells #[.string ek, .string ev] 61))
          have NC := Lib.hid (new_cells w4 61 [.string ek, .string ev])
          have OM : Hid (∀ y ∈ ([.string ek, .string ev] : List Value), y.oneCell' = true) := Lib.hid (one_flatE [⟨ek, ev⟩])
          have N1 : Hid ((done).length + 1 ≤ 1000000) := Lib.hid (by have := DL.out; (try simp only [List.length_append, List.length_cons, List.length_nil]); omega)
          clear OWn BBn
          go_wp2_with (at_builtin; refine wpList_append_own (k := 2) (T := 61) (S := 22) elemEnts infoEnts rfl (by decide) (by decide) rfl _ _ rfl rfl w1.heap.size _ _ (flatE (done)) w4.heap.size 0 1 1 [.string ek, .string ev] rfl rfl (World.ownsRow.alloc OWm.out _) rfl NC.out OM.out N1.out BA.out.2 ?_; intro v5 wb own5 gr5 _; have b5 := BA.out.grownRow (World.ownsRow.alloc OWm.out _) (Nat.le_refl _) gr5; have BE := Lib.hid b5; have OE := Lib.hid (es_own OWm.out ⟨ek, ev⟩ own5); clear own5 gr5 b5)
          exact ⟨⟨k + 1, true, _, by go_num, rfl, by omega, Lib.hid (by have := DL.out; (try simp only [List.length_append, List.length_cons, List.length_nil]); omega), OE, DD2, BE⟩, by simp [intOf]; omega⟩
      | false =>
        rcases ha : ltB ek ck with _ | _
        · by_cases he : ek = ck
          · have AM := Lib.hid (fun W => ha ▸ ahead_any ek ck SX.out hc W)
            have E1 : (ek.toList == ck.toList) = true := by rw [he]; simp
            have E2 : (ek.toList != ck.toList) = false := by rw [he]; simp
            have E3 : ek.toList = ck.toList := by rw [he]
            have DD2 : Hid (done ++ [(⟨ck, cv⟩ : Ent)] ++ oneF (l.drop (k + 1)) true ⟨ck, cv, cg⟩ = res) := Lib.hid (by
              rw [← DD.out, DR.out, oneF_cons, if_pos (by simp [ha])]
              unfold keepE
              rw [if_pos he]
              simp)
            clear he ha
            go_wp2_with fail
            go_quiet (((go_at_call 39; exact quietly0 (AM.out _))))
            have OWn := Lib.hid (own_drewN OW.out nq)
            have BBn := Lib.hid (BB.out.drewN nq)
            obtain ⟨y0, y1, y2⟩ := CX.out _ BBn.out.1
            obtain ⟨g0, g1⟩ := CE.out _ BBn.out.1
            generalize wr.drewN nq = w3 at *
            clear d0 d1 x0 x1 x2
            have BA := Lib.hid (BBn.out.alloc (.cells #[.string ck, .string cv] 61))
            have NC := Lib.hid (new_cells w3 61 [.string ck, .string cv])
            have OM : Hid (∀ y ∈ ([.string ck, .string cv] : List Value), y.oneCell' = true) := Lib.hid (one_flatE [⟨ck, cv⟩])
            have N1 : Hid ((done).length + 1 ≤ 1000000) := Lib.hid (by have := DL.out; (try simp only [List.length_append, List.length_cons, List.length_nil]); omega)
            go_upto_region 9 with (at_builtin; refine wpList_append_own (k := 2) (T := 61) (S := 22) elemEnts infoEnts rfl (by decide) (by decide) rfl _ _ rfl rfl w1.heap.size _ _ (flatE (done)) w3.heap.size 0 1 1 [.string ck, .string cv] rfl rfl (World.ownsRow.alloc OWn.out _) rfl NC.out OM.out N1.out BA.out.2 ?_; intro v5 wb own5 gr5 _; have b5 := BA.out.grownRow (World.ownsRow.alloc OWn.out _) (Nat.le_refl _) gr5; have BE := Lib.hid b5; have OE := Lib.hid (es_own OWn.out ⟨ck, cv⟩ own5); clear own5 gr5 b5)
            clear y0 y1 y2 g0 g1
            obtain ⟨y0, y1, y2⟩ := CX.out _ BE.out.1
            obtain ⟨g0, g1⟩ := CE.out _ BE.out.1
            clear BA NC OM N1
            go_quiet (fail)
            have OWm := Lib.hid (own_drewN OE.out nq)
            have BBm := Lib.hid (BE.out.drewN nq)
            clear y0 y1 y2 g0 g1
            obtain ⟨y0, y1, y2⟩ := CX.out _ BBm.out.1
            obtain ⟨g0, g1⟩ := CE.out _ BBm.out.1
            generalize wb.drewN nq = w4 at *
            go_wp2_with fail
            exact ⟨⟨k + 1, true, _, by go_num, rfl, by omega, Lib.hid (by have := DL.out; (try simp only [List.length_append, List.length_cons, List.length_nil]); omega), OWm, DD2, BBm⟩, by simp [intOf]; omega⟩
          · have AM := Lib.hid (fun W => ha ▸ ahead_any ek ck SX.out hc W)
            have E1 : (ek.toList == ck.toList) = false := by simp; exact fun e => he (tl_iff.1 e)
            have E2 : (ek.toList != ck.toList) = true := by simp; exact fun e => he (tl_iff.1 e)
            have E3 : ¬ ek.toList = ck.toList := fun e => he (tl_iff.1 e)
            have DD2 : Hid (done ++ [(⟨ck, cv⟩ : Ent)] ++ [(⟨ek, ev⟩ : Ent)] ++ oneF (l.drop (k + 1)) true ⟨ck, cv, cg⟩ = res) := Lib.hid (by
              rw [← DD.out, DR.out, oneF_cons, if_pos (by simp [ha])]
              unfold keepE
              rw [if_neg he]
              simp)
            clear he ha
            go_wp2_with fail
            go_quiet (((go_at_call 39; exact quietly0 (AM.out _))))
            have OWn := Lib.hid (own_drewN OW.out nq)
            have BBn := Lib.hid (BB.out.drewN nq)
            obtain ⟨y0, y1, y2⟩ := CX.out _ BBn.out.1
            obtain ⟨g0, g1⟩ := CE.out _ BBn.out.1
            generalize wr.drewN nq = w3 at *
            clear d0 d1 x0 x1 x2
            have BA := Lib.hid (BBn.out.alloc (.cells #[.string ck, .string cv] 61))
            have NC := Lib.hid (new_cells w3 61 [.string ck, .string cv])
            have OM : Hid (∀ y ∈ ([.string ck, .string cv] : List Value), y.oneCell' = true) := Lib.hid (one_flatE [⟨ck, cv⟩])
            have N1 : Hid ((done).length + 1 ≤ 1000000) := Lib.hid (by have := DL.out; (try simp only [List.length_append, List.length_cons, List.length_nil]); omega)
            go_upto_region 9 with (at_builtin; refine wpList_append_own (k := 2) (T := 61) (S := 22) elemEnts infoEnts rfl (by decide) (by decide) rfl _ _ rfl rfl w1.heap.size _ _ (flatE (done)) w3.heap.size 0 1 1 [.string ck, .string cv] rfl rfl (World.ownsRow.alloc OWn.out _) rfl NC.out OM.out N1.out BA.out.2 ?_; intro v5 wb own5 gr5 _; have b5 := BA.out.grownRow (World.ownsRow.alloc OWn.out _) (Nat.le_refl _) gr5; have BE := Lib.hid b5; have OE := Lib.hid (es_own OWn.out ⟨ck, cv⟩ own5); clear own5 gr5 b5)
            clear y0 y1 y2 g0 g1
            obtain ⟨y0, y1, y2⟩ := CX.out _ BE.out.1
            obtain ⟨g0, g1⟩ := CE.out _ BE.out.1
            clear BA NC OM N1
            go_quiet (fail)
            have OWm := Lib.hid (own_drewN OE.out nq)
            have BBm := Lib.hid (BE.out.drewN nq)
            clear y0 y1 y2 g0 g1
            obtain ⟨y0, y1, y2⟩ := CX.out _ BBm.out.1
            obtain ⟨g0, g1⟩ := CE.out _ BBm.out.1
            generalize wb.drewN nq = w4 at *
            have BA := Lib.hid (BBm.out.alloc (.cells #[.string ek, .string ev] 61))
            have NC := Lib.hid (new_cells w4 61 [.string ek, .string ev])
            have OM : Hid (∀ y ∈ ([.string ek, .string ev] : List Value), y.oneCell' = true) := Lib.hid (one_flatE [⟨ek, ev⟩])
            have N1 : Hid ((done ++ [(⟨ck, cv⟩ : Ent)]).length + 1 ≤ 1000000) := Lib.hid (by have := DL.out; (try simp only [List.length_append, List.length_cons, List.length_nil]); omega)
            clear OE BE OWn BBn
            go_wp2_with (at_builtin; refine wpList_append_own (k := 2) (T := 61) (S := 22) elemEnts infoEnts rfl (by decide) (by decide) rfl _ _ rfl rfl w1.heap.size _ _ (flatE (done ++ [(⟨ck, cv⟩ : Ent)])) w4.heap.size 0 1 1 [.string ek, .string ev] rfl rfl (World.ownsRow.alloc OWm.out _) rfl NC.out OM.out N1.out BA.out.2 ?_; intro v5 wb own5 gr5 _; have b5 := BA.out.grownRow (World.ownsRow.alloc OWm.out _) (Nat.le_refl _) gr5; have BE := Lib.hid b5; have OE := Lib.hid (es_own OWm.out ⟨ek, ev⟩ own5); clear own5 gr5 b5)
            exact ⟨⟨k + 1, true, _, by go_num, rfl, by omega, Lib.hid (by have := DL.out; (try simp only [List.length_append, List.length_cons, List.length_nil]); omega), OE, DD2, BE⟩, by simp [intOf]; omega⟩
        · by_cases he : ek = ck
          · have AM := Lib.hid (fun W => ha ▸ ahead_any ek ck SX.out hc W)
            have E1 : (ek.toList == ck.toList) = true := by rw [he]; simp
            have E2 : (ek.toList != ck.toList) = false := by rw [he]; simp
            have E3 : ek.toList = ck.toList := by rw [he]
            have DD2 : Hid (done ++ oneF (l.drop (k + 1)) false ⟨ck, cv, cg⟩ = res) := Lib.hid (by
              rw [← DD.out, DR.out, oneF_cons, if_neg (by simp [ha])]
              unfold keepE
              rw [if_pos he]
              simp)
            clear he ha
            go_wp2_with fail
            go_quiet (((go_at_call 39; exact quietly0 (AM.out _))))
            have OWn := Lib.hid (own_drewN OW.out nq)
            have BBn := Lib.hid (BB.out.drewN nq)
            obtain ⟨y0, y1, y2⟩ := CX.out _ BBn.out.1
            obtain ⟨g0, g1⟩ := CE.out _ BBn.out.1
            generalize wr.drewN nq = w3 at *
            clear d0 d1 x0 x1 x2
            go_wp2_with fail
            go_quiet (fail)
            have OWm := Lib.hid (own_drewN OWn.out nq)
            have BBm := Lib.hid (BBn.out.drewN nq)
            clear y0 y1 y2 g0 g1
            obtain ⟨y0, y1, y2⟩ := CX.out _ BBm.out.1
            obtain ⟨g0, g1⟩ := CE.out _ BBm.out.1
            generalize w3.drewN nq = w4 at *
            go_wp2_with fail
            exact ⟨⟨k + 1, false, _, by go_num, rfl, by omega, Lib.hid (by have := DL.out; (try simp only [List.length_append, List.length_cons, List.length_nil]); omega), OWm, DD2, BBm⟩, by simp [intOf]; omega⟩
          · have AM := Lib.hid (fun W => ha ▸ ahead_any ek ck SX.out hc W)
            have E1 : (ek.toList == ck.toList) = false := by simp; exact fun e => he (tl_iff.1 e)
            have E2 : (ek.toList != ck.toList) = true := by simp; exact fun e => he (tl_iff.1 e)
            have E3 : ¬ ek.toList = ck.toList := fun e => he (tl_iff.1 e)
            have DD2 : Hid (done ++ [(⟨ek, ev⟩ : Ent)] ++ oneF (l.drop (k + 1)) false ⟨ck, cv, cg⟩ = res) := Lib.hid (by
              rw [← DD.out, DR.out, oneF_cons, if_neg (by simp [ha])]
              unfold keepE
              rw [if_neg he]
              simp)
            clear he ha
            go_wp2_with fail
            go_quiet (((go_at_call 39; exact quietly0 (AM.out _))))
            have OWn := Lib.hid (own_drewN OW.out nq)
            have BBn := Lib.hid (BB.out.drewN nq)
            obtain ⟨y0, y1, y2⟩ := CX.out _ BBn.out.1
            obtain ⟨g0, g1⟩ := CE.out _ BBn.out.1
            generalize wr.drewN nq = w3 at *
            clear d0 d1 x0 x1 x2
            go_wp2_with fail
            go_quiet (fail)
            have OWm := Lib.hid (own_drewN OWn.out nq)
            have BBm := Lib.hid (BBn.out.drewN nq)
            clear y0 y1 y2 g0 g1
            obtain ⟨y0, y1, y2⟩ := CX.out _ BBm.out.1
            obtain ⟨g0, g1⟩ := CE.out _ BBm.out.1
            generalize w3.drewN nq = w4 at *
            have BA := Lib.hid (BBm.out.alloc (.cells #[.string ek, .string ev] 61))
            have NC := Lib.hid (new_cells w4 61 [.string ek, .string ev])
            have OM : Hid (∀ y ∈ ([.string ek, .string ev] : List Value), y.oneCell' = true) := Lib.hid (one_flatE [⟨ek, ev⟩])
            have N1 : Hid ((done).length + 1 ≤ 1000000) := Lib.hid (by have := DL.out; (try simp only [List.length_append, List.length_cons, List.length_nil]); omega)
            clear OWn BBn
            go_wp2_with (at_builtin; refine wpList_append_own (k := 2) (T := 61) (S := 22) elemEnts infoEnts rfl (by decide) (by decide) rfl _ _ rfl rfl w1.heap.size _ _ (flatE (done)) w4.heap.size 0 1 1 [.string ek, .string ev] rfl rfl (World.ownsRow.alloc OWm.out _) rfl NC.out OM.out N1.out BA.out.2 ?_; intro v5 wb own5 gr5 _; have b5 := BA.out.grownRow (World.ownsRow.alloc OWm.out _) (Nat.le_refl _) gr5; have BE := Lib.hid b5; have OE := Lib.hid (es_own OWm.out ⟨ek, ev⟩ own5); clear own5 gr5 b5)
            exact ⟨⟨k + 1, false, _, by go_num, rfl, by omega, Lib.hid (by have := DL.out; (try simp only [List.length_append, List.length_cons, List.length_nil]); omega), OE, DD2, BE⟩, by simp [intOf]; omega⟩
    · obtain rfl : k = z := by omega
      have i1 : ¬ (k : Int) < (k : Int) := by omega
      have DE : Hid (l.drop k = []) := Lib.hid (by rw [HZ.out, List.drop_length])
      cases put with
      | true =>
        have DD2 : Hid (done = res) := Lib.hid (by have := DD.out; rw [DE.out, oneF_nil] at this; simpa using this)
        go_wp2_with fail
        go_ret
        refine ⟨_, rfl, ?_, ?_⟩
        · rw [← DD2.out]
          exact (EsN.of_own OW.out (Nat.le_refl _)).mono (fun b hb _ => Nat.le_trans B1.out.size hb)
        · exact B1.out.trans (Below.mono BB.out.1 B1.out.size)
      | false =>
        have DD2 : Hid (done ++ [(⟨ck, cv⟩ : Ent)] = res) := Lib.hid (by have := DD.out; rw [DE.out, oneF_nil] at this; simpa using this)
        have BA := Lib.hid (BB.out.alloc (.cells #[.string ck, .string cv] 61))
        have NC := Lib.hid (new_cells wr 61 [.string ck, .string cv])
        have OM : Hid (∀ y ∈ ([.string ck, .string cv] : List Value), y.oneCell' = true) := Lib.hid (one_flatE [⟨ck, cv⟩])
        have N1 : Hid ((done).length + 1 ≤ 1000000) := Lib.hid (by have := DL.out; (try simp only [List.length_append, List.length_cons, List.length_nil]); omega)
        go_wp2_with (at_builtin; refine wpList_append_own (k := 2) (T := 61) (S := 22) elemEnts infoEnts rfl (by decide) (by decide) rfl _ _ rfl rfl w1.heap.size _ _ (flatE (done)) wr.heap.size 0 1 1 [.string ck, .string cv] rfl rfl (World.ownsRow.alloc OW.out _) rfl NC.out OM.out N1.out BA.out.2 ?_; intro v5 wb own5 gr5 _; have b5 := BA.out.grownRow (World.ownsRow.alloc OW.out _) (Nat.le_refl _) gr5; have BE := Lib.hid b5; have OE := Lib.hid (es_own OW.out ⟨ck, cv⟩ own5); clear own5 gr5 b5)
        go_ret
        refine ⟨_, rfl, ?_, ?_⟩
        · rw [← DD2.out]
          exact (EsN.of_own OE.out (Nat.le_refl _)).mono (fun b hb _ => Nat.le_trans B1.out.size hb)
        · exact B1.out.trans (Below.mono BE.out.1 B1.out.size)
end Go.Proofs.YtfeonjiiijdibaaGreatDoor
namespace Go.Proofs.Mdl
theorem applyL_step {l : List Ent} {cs : List Chg} {k : Nat} {c : Chg} (h : cs[k]? = some c) : applyL l (cs.take (k + 1)) = chgE (applyL l (cs.take k)) c := by
  unfold applyL
  rw [List.take_add_one, h, Option.toList_some, List.foldl_append]
  rfl
theorem applyL_len : ∀ (cs : List Chg) (l : List Ent), Up l → (applyL l cs).length ≤ l.length + cs.length
  | [], l, _ => Nat.le_refl _
  | c :: r, l, h => by
    have h1 := applyL_len r (chgE l c) (chgE_up h c)
    have h2 := oneF_len l c.gone c
    rw [oneF_chg c h] at h2
    show (applyL (chgE l c) r).length ≤ _
    simp only [List.length_cons]
    omega
end Go.Proofs.Mdl
namespace Go.Proofs.YtfeonjiiijdibaaGreatDoor
open Go.RowKit Go.Proofs.Mdl
set_option linter.unusedVariables false
set_option linter.unusedSimpArgs false
theorem bel_trans' {a b c : World} (h : Below a.heap.size a b) (k : Below b.heap.size b c) : Below a.heap.size a c := h.trans (Below.mono k h.size)
set_option maxRecDepth 100000 in
set_option maxHeartbeats 2000000 in
theorem rapply_any {N : Nat → Prop} {w : World} {vl vc : Value} {l : List Ent} {cs : List Chg} (hl : EsN N w vl l) (hc : Cs w vc cs) (h1 : l.length ≤ 1000) (h2 : cs.length ≤ 900) :
    Calls Tryz.prog 24 #[vl, vc] w fun e w' => ∃ v', e = .returned (.tuple #[v', .int .i64 (applyM l cs).2]) ∧ EsN (fun b => N b ∨ w.heap.size ≤ b) w' v' (applyM l cs).1 ∧ Below w.heap.size w w' := by
  have CK := Lib.hid (rcheck_any hl.toEs h1)
  have HL := Lib.hid hl
  have HC := Lib.hid hc
  obtain ⟨A, ca, rfl⟩ := hl.toEs.shape
  obtain ⟨B, cb, rfl⟩ := hc.shape
  obtain ⟨z, hz⟩ : ∃ z, z = cs.length := ⟨_, rfl⟩
  have HZ := Lib.hid hz
  rw [← hz] at HC ⊢
  obtain ⟨R, hR⟩ : ∃ R, R = applyM l cs := ⟨_, rfl⟩
  rw [← hR]
  have HR := Lib.hid hR
  have RG := Lib.hid (fun W (hW : Below w.heap.size w W) => rright_any (HC.out.below hW) (by omega))
  obtain ⟨le, er⟩ := R
  simp only at ⊢
  clear hl hc hR
  have z9 : z ≤ 900 := by omega
  clear hz
  rcases checkN_cases l with h0 | h0 | h0
  rotate_left
  · have HA : Hid (le = [] ∧ er = 1) := Lib.hid (by have := HR.out; unfold applyM at this; rw [if_neg (by rw [h0]; decide), h0] at this; cases this; exact ⟨rfl, rfl⟩)
    rw [h0] at CK
    clear h0 HR
    obtain ⟨rfl, rfl⟩ := HA.out
    go_enter Tryz.func24, Tryz.ntmps24
    go_wp2_with ((go_at_call 13; refine CK.out.mono ?_; rintro e w5 ⟨rfl, hq⟩; have QW := Lib.hid hq; clear hq))
    go_ret2
    exact ⟨_, rfl, EsN.nil _ _, drew_bel QW.out⟩
  · have HA : Hid (le = [] ∧ er = 12) := Lib.hid (by have := HR.out; unfold applyM at this; rw [if_neg (by rw [h0]; decide), h0] at this; cases this; exact ⟨rfl, rfl⟩)
    rw [h0] at CK
    clear h0 HR
    obtain ⟨rfl, rfl⟩ := HA.out
    go_enter Tryz.func24, Tryz.ntmps24
    go_wp2_with ((go_at_call 13; refine CK.out.mono ?_; rintro e w5 ⟨rfl, hq⟩; have QW := Lib.hid hq; clear hq))
    go_ret2
    exact ⟨_, rfl, EsN.nil _ _, drew_bel QW.out⟩
  have g := good_iff.1 h0
  rw [h0] at CK
  rcases ha : cs.all chOk with _ | _
  · have HA : Hid (le = [] ∧ er = 1) := Lib.hid (by have := HR.out; unfold applyM at this; rw [if_pos h0, if_neg (by rw [ha]; simp)] at this; cases this; exact ⟨rfl, rfl⟩)
    rw [ha] at RG
    clear h0 HR g ha
    obtain ⟨rfl, rfl⟩ := HA.out
    go_enter Tryz.func24, Tryz.ntmps24
    go_wp2_with (first
      | (go_at_call 13; refine CK.out.mono ?_; rintro e w5 ⟨rfl, hq⟩; have QW := Lib.hid (drew_bel hq); clear hq)
      | (go_at_call 56; refine (RG.out _ QW.out).mono ?_; rintro e w6 ⟨rfl, hq⟩; have QX := Lib.hid (bel_trans' QW.out (drew_bel hq)); clear hq))
    go_ret2
    exact ⟨_, rfl, EsN.nil _ _, QX.out⟩
  have HA : Hid ((le, er) = if 40 < (applyL l cs).length then ([], 12) else (applyL l cs, 0)) := Lib.hid (by have := HR.out; unfold applyM at this; rw [if_pos h0, if_pos ha] at this; exact this)
  rw [ha] at RG
  have GD := Lib.hid g
  have CO : Hid (∀ c ∈ cs, chOk c = true) := Lib.hid (fun c hc => by simpa using List.all_eq_true.1 ha c hc)
  clear h0 HR g ha
  go_enter Tryz.func24, Tryz.ntmps24
  go_upto_region 7 with (first
    | (go_at_call 13; refine CK.out.mono ?_; rintro e w5 ⟨rfl, hq⟩; have QW := Lib.hid (drew_bel hq); clear hq)
    | (go_at_call 56; refine (RG.out _ QW.out).mono ?_; rintro e w6 ⟨rfl, hq⟩; have QX := Lib.hid (bel_trans' QW.out (drew_bel hq)); clear hq))
  go_loopw [0, 7] (fun v0 vi wr => ∃ k : Nat, vi = .int .i64 (k : Int) ∧ k ≤ z ∧ Hid (EsN (fun b => N b ∨ w.heap.size ≤ b) wr v0 (applyL l (cs.take k))) ∧ Hid (Below w.heap.size w wr)) (fun _ vi _ => z - (intOf vi).toNat)
  case atStart => exact ⟨0, rfl, Nat.zero_le _, Lib.hid ((HL.out.below QX.out).mono (fun b h _ => .inl h)), QX⟩
  case round =>
    obtain ⟨k, rfl, hk, HE, BW⟩ := hrel
    obtain ⟨Ae, ce, hv0⟩ := HE.out.toEs.shape
    subst hv0
    have UP : Hid (Up (applyL l (cs.take k))) := Lib.hid (applyL_up _ GD.out.up)
    have OK : Hid (∀ e ∈ applyL l (cs.take k), entOk e = true) := Lib.hid (applyL_ok _ GD.out.ok (fun c hc => CO.out c (List.mem_of_mem_take hc)))
    have LE : Hid ((applyL l (cs.take k)).length ≤ 1000) := Lib.hid (by
      have := applyL_len (cs.take k) l GD.out.up
      have := GD.out.few
      rw [List.length_take] at *
      omega)
    have wk : IntKind.i64.wrap ((k : Int) + 1) = (k : Int) + 1 := IntWalk.i64_in _ (by omega)
    by_cases hlt : k < z
    · obtain ⟨x, hx⟩ : ∃ x, cs[k]? = some x := ⟨_, List.getElem?_eq_getElem (by rw [← HZ.out]; exact hlt)⟩
      have HCr := Lib.hid (HC.out.below BW.out)
      have i1 : (k : Int) < (z : Int) := by omega
      have STEP := Lib.hid (applyL_step (l := l) hx)
      have OX := Lib.hid (CO.out x (List.mem_of_getElem? hx))
      obtain ⟨b, o, c', hv, hbl, d0, d1, d2⟩ := HCr.out.at_ hx
      simp only [Value.slice.injEq] at hv
      obtain ⟨rfl, -, -⟩ := hv
      have KS : Hid (x.k.size ≤ 1000000) := Lib.hid (by have := OX.out; unfold chOk at this; rw [Bool.and_eq_true] at this; exact keyOk_size this.1)
      have ON := Lib.hid (one_any (ch := x) HE.out.toEs (by have := LE.out; omega) (fun e he => by have := OK.out e he; unfold entOk at this; rw [Bool.and_eq_true] at this; exact keyOk_size this.1) KS.out)
      rw [oneF_chg x UP.out, ← STEP.out] at ON
      clear hx hbl
      go_wp2_with ((go_at_call 57; refine ON.out.mono ?_; rintro e w7 ⟨v7, rfl, hes, hb⟩; have E7 := Lib.hid hes; have B7 := Lib.hid hb; clear hes hb))
      exact ⟨⟨k + 1, by go_num, by omega, Lib.hid (E7.out.mono (fun b hb _ => .inr (Nat.le_trans BW.out.size hb))), Lib.hid (bel_trans' BW.out B7.out)⟩, by simp [intOf]; omega⟩
    · obtain rfl : k = z := by omega
      have i1 : ¬ (k : Int) < (k : Int) := by omega
      have tk : Hid (applyL l (cs.take k) = applyL l cs) := Lib.hid (by rw [HZ.out, List.take_length])
      rw [tk.out] at HE LE
      obtain ⟨X, hX⟩ : ∃ X, X = applyL l cs := ⟨_, rfl⟩
      rw [← hX] at HE HA LE
      rw [tk.out, ← hX]
      clear hX UP OK tk
      by_cases h40 : 40 < X.length
      · have z1 : (40 : Int) < (X.length : Int) := by omega
        have HB : Hid (le = [] ∧ er = 12) := Lib.hid (by have := HA.out; rw [if_pos h40] at this; cases this; exact ⟨rfl, rfl⟩)
        clear h40 HA
        obtain ⟨rfl, rfl⟩ := HB.out
        go_wp2_with fail
        go_ret2
        exact ⟨_, rfl, EsN.nil _ _, BW.out⟩
      · have z1 : ¬ (40 : Int) < (X.length : Int) := by omega
        have HB : Hid (le = X ∧ er = 0) := Lib.hid (by have := HA.out; rw [if_neg h40] at this; cases this; exact ⟨rfl, rfl⟩)
        clear h40 HA
        obtain ⟨rfl, rfl⟩ := HB.out
        go_wp2_with fail
        go_ret2
        exact ⟨_, rfl, HE.out, BW.out⟩
end Go.Proofs.YtfeonjiiijdibaaGreatDoor
