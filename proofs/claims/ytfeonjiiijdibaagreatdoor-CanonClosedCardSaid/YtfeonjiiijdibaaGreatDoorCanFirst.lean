/-
  twins.First: two texts of one hash.
-/
import Derived.Test.YtfeonjiiijdibaaGreatDoorGaCaD
namespace Go.Proofs.YtfeonjiiijdibaaGreatDoor
open Go.RowKit Go.Proofs.Nod Go.Proofs.Can
open Go.Proofs.Mdl hiding e0
set_option linter.unusedVariables false
set_option linter.unusedSimpArgs false
/-- The first one that collides with x. -/
def twinOf (x : ByteArray) (b : List ByteArray) : Option ByteArray := b.find? (fun y => decide (shaB y = shaB x) && decide (¬ x = y))
/-- The first two that collide. -/
def firstT : List ByteArray → List ByteArray → Option (ByteArray × ByteArray)
  | [], _ => none
  | x :: a, b => match twinOf x b with
    | some y => some (x, y)
    | none => firstT a b
theorem firstT_append : ∀ (a c b : List ByteArray), firstT a b = none → firstT (a ++ c) b = firstT c b
  | [], c, b, _ => rfl
  | x :: a, c, b, h => by
    unfold firstT at h
    cases hx : twinOf x b with
    | some y => rw [hx] at h; cases h
    | none =>
      rw [hx] at h
      show (match twinOf x b with | some y => some (x, y) | none => firstT (a ++ c) b) = _
      rw [hx]
      exact firstT_append a c b h
theorem firstT_one {x : ByteArray} {b : List ByteArray} (h : twinOf x b = none) : firstT [x] b = none := by
  unfold firstT
  rw [h]
  rfl
theorem firstT_hit {x y : ByteArray} {b c : List ByteArray} (h : twinOf x b = some y) : firstT (x :: c) b = some (x, y) := by
  unfold firstT
  rw [h]
theorem firstT_some {a b : List ByteArray} {x y : ByteArray} (h : firstT a b = some (x, y)) : x ∈ a ∧ y ∈ b ∧ shaB x = shaB y ∧ ¬ x = y := by
  induction a with
  | nil => cases h
  | cons z a ih =>
    unfold firstT at h
    cases hx : twinOf z b with
    | some u =>
      rw [hx] at h
      cases h
      have h1 := List.find?_some hx
      simp only [Bool.and_eq_true, decide_eq_true_eq] at h1
      exact ⟨List.mem_cons_self .., List.mem_of_find?_eq_some hx, h1.1.symm, h1.2⟩
    | none =>
      rw [hx] at h
      obtain ⟨h1, h2⟩ := ih h
      exact ⟨List.mem_cons_of_mem _ h1, h2⟩
theorem firstT_none {a b : List ByteArray} (h : firstT a b = none) : ∀ x ∈ a, ∀ y ∈ b, shaB x = shaB y → x = y := by
  induction a with
  | nil => intro x hx; cases hx
  | cons z a ih =>
    unfold firstT at h
    cases hx : twinOf z b with
    | some u => rw [hx] at h; cases h
    | none =>
      rw [hx] at h
      intro x hxm y hy hs
      rcases List.mem_cons.1 hxm with rfl | hxm
      · have := List.find?_eq_none.1 hx y hy
        simp only [Bool.and_eq_true, decide_eq_true_eq, not_and, Classical.not_not] at this
        exact this hs.symm
      · exact ih h x hxm y hy hs
def firstV : Option (ByteArray × ByteArray) → Value
  | some (x, y) => .tuple #[.string x, .string y, .bool true]
  | none => .tuple #[.string ⟨#[]⟩, .string ⟨#[]⟩, .bool false]
theorem Sl.shape {w : World} {v : Value} {xs : List ByteArray} (h : Sl w v xs) : ∃ A c, v = .slice A xs.length c ∧ Strs w A xs := by
  obtain ⟨A, c, h1, h2, _⟩ := h
  exact ⟨A, c, h1, h2⟩
set_option maxRecDepth 100000 in
set_option maxHeartbeats 4000000 in
theorem twin_any {w : World} {va vb : Value} {la lb : List ByteArray} (ha : Sl w va la) (hb : Sl w vb lb) (h1 : la.length ≤ 1000) (h2 : lb.length ≤ 1000) (z1 : ∀ x ∈ la, x.size ≤ 1000) (z2 : ∀ x ∈ lb, x.size ≤ 1000) (hL : LaidN w) :
    Calls Tryz.prog 59 #[va, vb] w fun e w' => e = .returned (firstV (firstT la lb)) ∧ Below w.heap.size w w' := by
  have LA : Hid (∀ W, Below w.heap.size w W → LaidN W) := Lib.hid (fun W h => hL.on h)
  obtain ⟨A, ca, rfl, hA⟩ := ha.shape
  obtain ⟨B, cb, rfl, hB⟩ := hb.shape
  have SA := Lib.hid hA
  have SB := Lib.hid hB
  have Z1 := Lib.hid z1
  have Z2 := Lib.hid z2
  obtain ⟨na, hna⟩ : ∃ n, n = la.length := ⟨_, rfl⟩
  obtain ⟨nb, hnb⟩ : ∃ n, n = lb.length := ⟨_, rfl⟩
  have HNA := Lib.hid hna
  have HNB := Lib.hid hnb
  rw [← hna] at h1 ⊢
  rw [← hnb] at h2 ⊢
  clear ha hb hA hB z1 z2 hL hna hnb
  go_enter Tryz.func59, Tryz.ntmps59
  go_wp2_with fail
  go_loopw [7, 17] (fun v7 vi wr => ∃ k : Nat, vi = .int .i64 (k : Int) ∧ k ≤ nb ∧ Hid (wr.ownsRow w.heap.size 9 1 v7 k (((lb.take k).map shaB).map Value.string)) ∧ Hid (Bl w.heap.size w wr)) (fun _ vi _ => nb - (intOf vi).toNat)
  case atStart => exact ⟨0, rfl, Nat.zero_le _, Lib.hid ⟨rfl, .inl ⟨rfl, rfl⟩⟩, Lib.hid (Bl.start w)⟩
  case round =>
    obtain ⟨k, rfl, hk, OD, HB⟩ := hrel
    by_cases hlt : k < nb
    · have hkl : k < lb.length := by rw [← HNB.out]; exact hlt
      obtain ⟨b, o, rfl, hbl, d0⟩ := (SB.out.below HB.out.1).at_ k hkl
      obtain ⟨X, hX⟩ : ∃ X, X = lb[k] := ⟨_, rfl⟩
      have XS : Hid (X.size ≤ 1000) := Lib.hid (by rw [hX]; exact Z2.out _ (List.getElem_mem _))
      have STEP : Hid (lb.take (k + 1) = lb.take k ++ [X]) := Lib.hid (by rw [List.take_add_one, List.getElem?_eq_getElem hkl, hX]; rfl)
      rw [← hX] at d0
      have i1 : (k : Int) < (nb : Int) := by omega
      have wk : IntKind.i64.wrap ((k : Int) + 1) = (k : Int) + 1 := IntWalk.i64_in _ (by omega)
      have BA := Lib.hid (HB.out.alloc (.cells #[.string X] 9))
      have OF := Lib.hid (of_one X wr.heap.size (wr.alloc (.cells #[.string X] 9)) (LA.out _ BA.out.1).sha (by have := XS.out; omega) (Blk.new wr _ _))
      have OD1 := Lib.hid (World.ownsRow.alloc OD.out (.cells #[.string X] 9))
      have LD : Hid (k ≤ 1000) := Lib.hid (by omega)
      obtain ⟨A5, c5, hv5⟩ := own_shape OD1.out
      subst hv5
      obtain ⟨H, hH⟩ : ∃ H, H = shaB X := ⟨_, rfl⟩
      have HH := Lib.hid hH
      rw [← hH] at OF
      clear hX OD HB hH
      go_wp2_with (first
        | (go_at_call 34; refine OF.out.mono ?_; rintro e w2 ⟨rfl, hb2⟩; have OD2 := Lib.hid (own_below OD1.out hb2); have BA2 := Lib.hid (BA.out.call hb2); clear hb2)
        | (at_builtin; refine wpList_append_own (k := 1) (T := 9) (S := 29) elemStr infoStr rfl (by decide) (by decide) rfl _ _ rfl rfl w.heap.size _ _ (((lb.take k).map shaB).map Value.string) w2.heap.size 0 1 1 [.string H] rfl rfl (World.ownsRow.alloc OD2.out _) rfl (new_cells w2 9 [.string H]) (by simp [Value.oneCell']) (by have := LD.out; omega) (by simp; have := BA2.out.2; omega) ?_; intro v6 wb hown hgr _; have OE := Lib.hid hown; have BE := Lib.hid ((BA2.out.alloc _).grownRow (World.ownsRow.alloc OD2.out _) (Nat.le_refl _) hgr); clear hown hgr))
      refine ⟨⟨k + 1, rfl, hlt, Lib.hid ?_, BE⟩, by simp [intOf]; omega⟩
      rw [STEP.out, List.map_append, List.map_append, List.map_singleton, List.map_singleton, ← HH.out]
      exact OE.out
    · have i1 : ¬ (k : Int) < (nb : Int) := by omega
      obtain rfl : k = nb := by omega
      have hod := OD.out
      rw [show lb.take k = lb by rw [HNB.out, List.take_length]] at hod
      have hl : lb.length = (lb.map shaB).length := (List.length_map _).symm
      have hod2 := hod
      rw [show k = (lb.map shaB).length from HNB.out.trans hl] at hod2
      obtain ⟨A7, c7, hv7, hS7⟩ := (Sl.of_own hod2).shape
      subst hv7
      rw [← hl, ← HNB.out]
      have SH := Lib.hid hS7
      have B5 := Lib.hid HB.out.1
      have HHL := Lib.hid hl
      clear hod hod2 hS7 OD HB hl i1 hk
      generalize wr = w5 at *
      go_wp2_with fail
      go_loopw [30] (fun vi wr => ∃ i : Nat, vi = .int .i64 (i : Int) ∧ i ≤ na ∧ Hid (Below w5.heap.size w5 wr) ∧ Hid (firstT (la.take i) lb = none)) (fun vi _ => na - (intOf vi).toNat)
      case atStart => exact ⟨0, rfl, Nat.zero_le _, Lib.hid (Below.refl _ _), Lib.hid rfl⟩
      case round =>
        obtain ⟨i, rfl, hi, BW, NO⟩ := hrel
        by_cases hlt : i < na
        · have HLTI := Lib.hid hlt
          have hil : i < la.length := by rw [← HNA.out]; exact hlt
          have bw : Below w.heap.size w wr := B5.out.trans (BW.out.mono B5.out.size)
          obtain ⟨ba, oa, rfl, hba, e0⟩ := (SA.out.below bw).at_ i hil
          obtain ⟨X, hX⟩ : ∃ X, X = la[i] := ⟨_, rfl⟩
          have XS : Hid (X.size ≤ 1000) := Lib.hid (by rw [hX]; exact Z1.out _ (List.getElem_mem _))
          have STEP : Hid (la = la.take i ++ X :: la.drop (i + 1)) := Lib.hid (by rw [hX, ← List.drop_eq_getElem_cons hil, List.take_append_drop])
          have TK : Hid (la.take (i + 1) = la.take i ++ [X]) := Lib.hid (by rw [List.take_add_one, List.getElem?_eq_getElem hil, hX]; rfl)
          rw [← hX] at e0
          have j1 : (i : Int) < (na : Int) := by omega
          have wki : IntKind.i64.wrap ((i : Int) + 1) = (i : Int) + 1 := IntWalk.i64_in _ (by omega)
          have BA := Lib.hid ((Bl.start wr).alloc (.cells #[.string X] 9))
          have OF := Lib.hid (of_one X wr.heap.size (wr.alloc (.cells #[.string X] 9)) (LA.out _ (bw.trans (BA.out.1.mono bw.size))).sha (by have := XS.out; omega) (Blk.new wr _ _))
          obtain ⟨H, hH⟩ : ∃ H, H = shaB X := ⟨_, rfl⟩
          have HH := Lib.hid hH
          rw [← hH] at OF
          clear hX hH bw
          go_wp2_with (first
            | (go_at_call 34; refine OF.out.mono ?_; rintro e w2 ⟨rfl, hb2⟩; have BW2 := Lib.hid (BW.out.trans ((BA.out.call hb2).1.mono BW.out.size)); clear hb2))
          go_loopw [39] (fun vj wx => ∃ j : Nat, vj = .int .i64 (j : Int) ∧ j ≤ k ∧ Hid (w2 = wx) ∧ Hid (∀ y ∈ lb.take j, ¬ (shaB y = H ∧ ¬ X = y))) (fun vj _ => k - (intOf vj).toNat)
          case atStart => exact ⟨0, rfl, Nat.zero_le _, Lib.hid rfl, Lib.hid (fun y hy => by cases hy)⟩
          case round =>
            obtain ⟨j, rfl, hj, HW, NJ⟩ := hrel
            obtain rfl := HW.out
            by_cases hltj : j < k
            · have hjl : j < lb.length := by rw [← HNB.out]; exact hltj
              have bw2 : Below w.heap.size w w2 := B5.out.trans (BW2.out.mono B5.out.size)
              obtain ⟨bb, ob, rfl, hbb, f0⟩ := (SB.out.below bw2).at_ j hjl
              obtain ⟨bh, oh, rfl, hbh, g0⟩ := (SH.out.below BW2.out).at_ j (by rw [← HHL.out]; exact hjl)
              obtain ⟨Y, hY⟩ : ∃ Y, Y = lb[j] := ⟨_, rfl⟩
              have hg : (lb.map shaB)[j]'(by rw [← HHL.out]; exact hjl) = shaB Y := by rw [List.getElem_map, hY]
              rw [hg] at g0
              rw [← hY] at f0
              have TKJ : Hid (lb.take (j + 1) = lb.take j ++ [Y]) := Lib.hid (by rw [List.take_add_one, List.getElem?_eq_getElem hjl, hY]; rfl)
              have CUT : Hid (lb = lb.take j ++ Y :: lb.drop (j + 1)) := Lib.hid (by rw [hY, ← List.drop_eq_getElem_cons hjl, List.take_append_drop])
              have q1 : (j : Int) < (k : Int) := by omega
              have wkj : IntKind.i64.wrap ((j : Int) + 1) = (j : Int) + 1 := IntWalk.i64_in _ (by omega)
              obtain ⟨G, hG⟩ : ∃ G, G = shaB Y := ⟨_, rfl⟩
              have HG := Lib.hid hG
              rw [← hG] at g0
              clear hY hg hG bw2
              by_cases e : G = H
              · have be : (G.toList == H.toList) = true := by rw [bytes_eqC]; exact decide_eq_true e
                by_cases e2 : X = Y
                · have be2 : (X.toList == Y.toList) = true := by rw [bytes_eqC]; exact decide_eq_true e2
                  have be3 : (X.toList != Y.toList) = false := by rw [bne, be2]; rfl
                  have NX : Hid (¬ (shaB Y = H ∧ ¬ X = Y)) := Lib.hid (fun h => h.2 e2)
                  clear e e2
                  go_wp2_with fail
                  refine ⟨⟨j + 1, rfl, hltj, Lib.hid trivial, Lib.hid (fun y hy => ?_)⟩, by simp [intOf]; omega⟩
                  rw [TKJ.out] at hy
                  rcases List.mem_append.1 hy with hy | hy
                  · exact NJ.out y hy
                  · rw [List.mem_singleton.1 hy]; exact NX.out
                · have be2 : (X.toList == Y.toList) = false := by rw [bytes_eqC]; exact decide_eq_false e2
                  have be3 : (X.toList != Y.toList) = true := by rw [bne, be2]; rfl
                  have HIT : Hid (firstT la lb = some (X, Y)) := Lib.hid (by
                    rw [STEP.out, firstT_append _ _ _ NO.out]
                    refine firstT_hit ?_
                    unfold twinOf
                    rw [CUT.out, List.find?_append, List.find?_eq_none.2 (fun y hy => by
                      have := NJ.out y hy
                      rw [HH.out] at this
                      simpa using this)]
                    rw [List.find?_cons_of_pos (by simp [← HG.out, ← HH.out, e, e2])]
                    rfl)
                  clear e e2
                  go_wp2_with fail
                  go_returns
                  exact ⟨by rw [HIT.out]; rfl, B5.out.trans (BW2.out.mono B5.out.size)⟩
              · have be : (G.toList == H.toList) = false := by rw [bytes_eqC]; exact decide_eq_false e
                have NX : Hid (¬ (shaB Y = H ∧ ¬ X = Y)) := Lib.hid (fun h => e (HG.out.trans h.1))
                clear e
                go_wp2_with fail
                refine ⟨⟨j + 1, rfl, hltj, Lib.hid trivial, Lib.hid (fun y hy => ?_)⟩, by simp [intOf]; omega⟩
                rw [TKJ.out] at hy
                rcases List.mem_append.1 hy with hy | hy
                · exact NJ.out y hy
                · rw [List.mem_singleton.1 hy]; exact NX.out
            · have q1 : ¬ (j : Int) < (k : Int) := by omega
              obtain rfl : j = k := by omega
              go_wp2_with fail
              refine ⟨⟨i + 1, rfl, HLTI.out, BW2, Lib.hid ?_⟩, by simp [intOf]; have := HLTI.out; omega⟩
              rw [TK.out, firstT_append _ _ _ NO.out]
              refine firstT_one ?_
              unfold twinOf
              refine List.find?_eq_none.2 (fun y hy => ?_)
              have := NJ.out y (by rw [HNB.out, List.take_length]; exact hy)
              rw [HH.out] at this
              simpa using this
        · have j1 : ¬ (i : Int) < (na : Int) := by omega
          obtain rfl : i = na := by omega
          have NO2 : Hid (firstT la lb = none) := Lib.hid (by have := NO.out; rwa [HNA.out, List.take_length] at this)
          go_wp2_with fail
          go_returns
          exact ⟨by rw [NO2.out]; rfl, B5.out.trans (BW.out.mono B5.out.size)⟩
end Go.Proofs.YtfeonjiiijdibaaGreatDoor
