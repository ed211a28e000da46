/-
  The walk of the law LeaseEnds.
-/
import Derived.Test.YtjladlniilacjaaLeaWorks
import Derived.Test.YtjladlniilacjaaLeaSame
import Derived.Test.YtjladlniilacjaaLeaPast
namespace Go.Proofs.Ytjladlniilacjaa
open Go.RowKit Go.Proofs.Lea
set_option linter.unusedVariables false
set_option linter.unusedSimpArgs false
set_option maxRecDepth 100000 in
set_option maxHeartbeats 2000000 in
theorem renew_err {B m : Nat} {t : Tbl} {vs : Nat → Value} {ve : Value} {w : World} (h : Lt B m t vs ve w) (id clock e : Int) (hf : t.find id clock = .err e) :
    Calls Try.prog 19 #[.pointer (some ⟨m, 0, none⟩), .int .i64 id, .int .i64 clock] w fun r w' => r = .returned (.int .i64 e) ∧ Below w.heap.size w w' := by
  have FI := Lib.hid (h.find id clock)
  have NU := Lib.hid (fun W => number_got id clock t W)
  rw [hf] at FI NU
  unfold gotP gotV at FI
  unfold gotV gotE at NU
  simp only at FI NU
  clear h hf
  go_enter Try.func19, Try.ntmps19
  go_wp2_with (first
    | (go_at_call 44; refine FI.out.mono ?_; rintro e w1 ⟨rfl, hb⟩; have B1 := Lib.hid hb; clear hb)
    | (go_at_call 45; refine (NU.out _).mono ?_; rintro e w2 ⟨rfl, hb⟩; have B2 := Lib.hid hb; clear hb))
  go_ret
  exact ⟨rfl, B1.out.trans (B2.out.mono B1.out.size)⟩
theorem finds_err {t : Tbl} {id clock : Int} {s : Ses} (h : t.finds id clock = (s, 6)) : t.find id clock = .err 6 := by
  unfold Tbl.finds at h
  cases hf : t.find id clock with
  | ok i => rw [hf] at h; cases h
  | err e => rw [hf] at h; simp only [Prod.mk.injEq] at h; rw [h.2]
set_option maxRecDepth 100000 in
set_option maxHeartbeats 4000000 in
theorem ends_walk (w : World) (a0 a1 : Int) (A2 : Option Addr) (c2 : Nat) (l2 : List Deed) (S2 : Lk w A2 l2) (a3 : Int) :
    Calls Try.prog 4 #[.int .i64 a0, .int .i64 a1, .slice A2 l2.length c2, .int .i64 a3] w fun e w' => e = .returned (.bool true) ∧ Below w.heap.size w w' := by
  have HS := Lib.hid S2
  clear S2
  go_enter Try.func4, Try.ntmps4
  go_wp2_with fail
  refine (lworks_any _).mono ?_
  rintro e w1 ⟨rfl, hb1⟩
  have HB1 := Lib.hid hb1
  clear hb1
  go_wp2_with fail
  refine (lv_new (w0 := w) a0 a1 HB1.out).mono ?_
  rintro e w2 ⟨rfl, hM⟩
  have H2 := Lib.hid hM
  clear hM
  generalize w1.heap.size = m at *
  go_wp2_with fail
  refine (lfew_any A2 c2 l2 w2 (HS.out.below H2.out.below)).mono ?_
  rintro e w3 ⟨rfl, rfl⟩
  rcases hf : lfewF l2 with _ | _
  · go_wp2_with fail
    go_ret
    exact ⟨rfl, H2.out.below⟩
  · obtain ⟨hl60, hks⟩ := lfewF_true hf
    have HKS := Lib.hid hks
    clear hf hks
    by_cases b1 : a3 < 0
    · go_wp2_with fail
      go_ret
      exact ⟨rfl, H2.out.below⟩
    · by_cases b2 : (1000000 : Int) < a3
      · go_wp2_with fail
        go_ret
        exact ⟨rfl, H2.out.below⟩
      · go_wp2_with fail
        go_loopw [12] (fun vi wr => ∃ k : Nat, vi = .int .i64 (k : Int) ∧ k ≤ l2.length ∧ Hid (∃ t vs ve, Lv w m t vs ve wr)) (fun vi _ => l2.length - (intOf vi).toNat)
        case atStart => exact ⟨0, rfl, Nat.zero_le _, Lib.hid ⟨_, _, _, H2.out⟩⟩
        case round =>
          obtain ⟨k, rfl, hk, HM⟩ := hrel
          obtain ⟨t, vs, ve, hC⟩ := HM.out
          have H := Lib.hid hC
          clear HM hC
          by_cases hlt : k < l2.length
          · obtain ⟨a, ha⟩ : ∃ a, l2[k]? = some a := ⟨_, List.getElem?_eq_getElem hlt⟩
            have hmild := Lib.hid (HKS.out a (List.mem_of_getElem? ha))
            obtain ⟨b, o, rfl, hbl, HC⟩ := (HS.out.below H.out.below).at_ k a ha
            obtain ⟨d0, d1, d2, d3, d4, d5⟩ := HC
            have j1 : (k : Int) < (l2.length : Int) := by omega
            have wk : IntKind.i64.wrap ((k : Int) + 1) = (k : Int) + 1 := IntWalk.i64_in _ (by omega)
            clear ha
            go_wp2_with fail
            refine (do_any H.out a hmild.out).mono ?_
            rintro e w4 ⟨va, rfl, ⟨vs4, ve4, h4, _⟩, _⟩
            have H4 := Lib.hid h4
            clear h4
            go_wp2_with fail
            exact ⟨⟨k + 1, by go_num, by omega, Lib.hid ⟨_, _, _, H4.out⟩⟩, by simp [intOf]; omega⟩
          · obtain rfl : k = l2.length := by omega
            go_wp2_with fail
            refine (lv_all H.out).mono ?_
            rintro e w6 ⟨v6, rfl, _, hr6, hb⟩
            have H6 := Lib.hid (H.out.call hb)
            have R6 := Lib.hid hr6
            clear hr6 hb
            obtain ⟨A6, c6, rfl⟩ := own_sl R6.out.1
            go_wp2_with fail
            refine (lv_expire H6.out a3).mono ?_
            rintro e w7 ⟨v7, rfl, _, vs7, ve7, h7, hr7, hk7⟩
            have EXP := Lib.hid (expired H6.out.lt.ok H6.out.fine a3)
            obtain ⟨x1, hx1⟩ : ∃ x, x = (t.expire a3).2 := ⟨_, rfl⟩
            obtain ⟨t1, ht1⟩ : ∃ x, x = (t.expire a3).1 := ⟨_, rfl⟩
            rw [← hx1] at hr7 EXP
            rw [← ht1] at h7 EXP
            have H7 := Lib.hid h7
            have E7 := Lib.hid hr7
            have R7 := Lib.hid (hk7.row R6.out)
            clear h7 hr7 hk7 hx1 ht1
            obtain ⟨A7, c7, rfl⟩ := own_sl E7.out.1
            go_wp2_with fail
            refine (lv_expire H7.out a3).mono ?_
            rintro e w8 ⟨v8, rfl, hv8, vs8, ve8, h8, _, hk8⟩
            rw [EXP.out.2.2.1] at h8 hv8
            have H8 : Hid (Lv w m t1 vs8 ve8 w8) := Lib.hid h8
            have R8 := Lib.hid (hk8.row R7.out)
            have E8 := Lib.hid (hk8.row E7.out)
            obtain ⟨A8, c8, rfl⟩ := own_sl hv8
            clear h8 hk8 hv8
            have n4 := all_four t
            dsimp only [List.length_nil]
            obtain ⟨n6, hn6⟩ : ∃ n, n = t.all.length := ⟨_, rfl⟩
            rw [← hn6] at n4 ⊢
            have HN6 := Lib.hid hn6
            clear hn6
            go_wp2_with fail
            go_loopw [16, 17, 18, 19, 20, 21, 22, 23] (fun vp vq vi _ _ _ _ _ wr => ∃ k : Nat, vi = .int .i64 (k : Int) ∧ k ≤ n6 ∧ Hid (wr.ownsRow w8.heap.size 29 4 vp ((t.all.take k).filter (fun s => decide (s.dead ≤ a3))).length (flatS ((t.all.take k).filter (fun s => decide (s.dead ≤ a3))))) ∧ Hid (wr.ownsRow w8.heap.size 29 4 vq ((t.all.take k).filter (fun s => decide (a3 < s.dead))).length (flatS ((t.all.take k).filter (fun s => decide (a3 < s.dead))))) ∧ Hid (∀ b, vp.ownBlock = some b → vq.ownBlock ≠ some b) ∧ Hid (Bl w8.heap.size w8 wr)) (fun _ _ vi _ _ _ _ _ _ => n6 - (intOf vi).toNat)
            case atStart => exact ⟨0, rfl, Nat.zero_le _, Lib.hid (ownsRow_nil _ _ _ _), Lib.hid (ownsRow_nil _ _ _ _), Lib.hid (fun b h => by cases h), Lib.hid (Bl.start w8)⟩
            case round =>
              obtain ⟨k, rfl, hk, HP, HQ, SEP, HB⟩ := hrel
              by_cases hlt : k < n6
              · obtain ⟨s, hs⟩ : ∃ s, t.all[k]? = some s := ⟨_, List.getElem?_eq_getElem (by rw [← HN6.out]; exact hlt)⟩
                obtain ⟨b6, o6, hA6, hb6, hat⟩ := own_at R8.out.1 k s hs
                subst hA6
                have CL : Hid (∀ W : World, Below w8.heap.size w8 W → SesAt W b6 (o6 + k * 4) s) := Lib.hid (fun W hW => (hat k s hs).below hb6 hW)
                have d0 := (CL.out wr HB.out.1).c0
                have d1 := (CL.out wr HB.out.1).c1
                have d2 := (CL.out wr HB.out.1).c2
                have d3 := (CL.out wr HB.out.1).c3
                have HMEM := Lib.hid (List.mem_of_getElem? hs)
                have IA := Lib.hid hlt
                have i1 : (k : Int) < (n6 : Int) := by omega
                have wk : IntKind.i64.wrap ((k : Int) + 1) = (k : Int) + 1 := IntWalk.i64_in _ (by omega)
                have ht : t.all.take (k + 1) = t.all.take k ++ [s] := by rw [List.take_add_one, hs]; rfl
                have hP : ((t.all.take k).filter (fun s => decide (s.dead ≤ a3))).length ≤ k := Nat.le_trans (List.length_filter_le _ _) (by rw [List.length_take]; omega)
                have hQ : ((t.all.take k).filter (fun s => decide (a3 < s.dead))).length ≤ k := Nat.le_trans (List.length_filter_le _ _) (by rw [List.length_take]; omega)
                obtain ⟨P, hPd⟩ : ∃ L, L = (t.all.take k).filter (fun s => decide (s.dead ≤ a3)) := ⟨_, rfl⟩
                obtain ⟨Q, hQd⟩ : ∃ L, L = (t.all.take k).filter (fun s => decide (a3 < s.dead)) := ⟨_, rfl⟩
                by_cases hd : s.dead ≤ a3
                · have FP : Hid ((t.all.take (k + 1)).filter (fun s => decide (s.dead ≤ a3)) = P ++ [s]) := Lib.hid (by rw [ht, List.filter_append, hPd]; simp [hd])
                  have FQ : Hid ((t.all.take (k + 1)).filter (fun s => decide (a3 < s.dead)) = Q) := Lib.hid (by rw [ht, List.filter_append, hQd]; simp [hd])
                  rw [← hPd] at HP hP
                  rw [← hQd] at HQ hQ
                  have F6 : Hid (t1.finds s.id 0 = (⟨0, 0, 0, 0⟩, 6)) := Lib.hid (EXP.out.2.2.2.1 s HMEM.out hd).1
                  clear hat hs ht hPd hQd
                  have N1 : Hid (P.length + 1 ≤ 1000000) := Lib.hid (by omega)
                  have N2 : Hid (w8.heap.size ≤ (wr.alloc (.cells #[.int .i64 s.id, .int .i64 s.block, .int .i64 s.dead, .int .i64 s.last] 29)).heap.size) := Lib.hid (by have := HB.out.2; simp; omega)
                  have BA : Hid (Bl w8.heap.size w8 (wr.alloc (.cells #[.int .i64 s.id, .int .i64 s.block, .int .i64 s.dead, .int .i64 s.last] 29))) := Lib.hid (HB.out.alloc _)
                  have NC := Lib.hid (new_cells wr 29 [.int .i64 s.id, .int .i64 s.block, .int .i64 s.dead, .int .i64 s.last])
                  have OTH : Hid (∀ (v9 : Value) (w9 : World), (wr.alloc (.cells #[.int .i64 s.id, .int .i64 s.block, .int .i64 s.dead, .int .i64 s.last] 29)).grownBy w9 u16.ownBlock → (v9.ownBlock = u16.ownBlock ∨ v9.ownBlock = some (wr.alloc (.cells #[.int .i64 s.id, .int .i64 s.block, .int .i64 s.dead, .int .i64 s.last] 29)).heap.size) → w9.ownsRow w8.heap.size 29 4 u17 Q.length (flatS Q) ∧ ∀ b, v9.ownBlock = some b → u17.ownBlock ≠ some b) := Lib.hid (fun v9 w9 gr ho => by
                    have F : Far (fun j => u16.ownBlock = some j) wr w9 := ((Far.refl _ wr).alloc _).grown gr (fun j _ hj => hj)
                    refine ⟨own_far HQ.out F (fun b hb e => SEP.out b e hb), fun b hb e => ?_⟩
                    rcases ho with h | h
                    · rw [h] at hb
                      exact SEP.out b hb e
                    · rw [h] at hb
                      cases hb
                      have h2 := (HQ.out.lt _ e).2
                      have h3 : (wr.alloc (.cells #[.int .i64 s.id, .int .i64 s.block, .int .i64 s.dead, .int .i64 s.last] 29)).heap.size = wr.heap.size + 1 := by simp
                      omega)
                  go_wp2_with (at_builtin; (refine wpList_append_own (k := 4) (T := 29) (S := 30) elemSes infoSes rfl (by decide) (by decide) rfl _ _ rfl rfl w8.heap.size _ _ (flatS P) wr.heap.size 0 1 1 [.int .i64 s.id, .int .i64 s.block, .int .i64 s.dead, .int .i64 s.last] rfl rfl (World.ownsRow.alloc HP.out _) rfl NC.out (by simp [Value.oneCell']) N1.out N2.out ?_; intro v9 w9 own9 gr9 ho9; have b9 := BA.out.grownRow (World.ownsRow.alloc HP.out _) (Nat.le_refl _) gr9; have B9 := Lib.hid b9; have O9 := Lib.hid own9; have X9 := Lib.hid (OTH.out v9 w9 gr9 ho9); have c9 := (CL.out w9 B9.out.1).c0; clear own9 gr9 ho9 b9))
                  have H9 := Lib.hid (H8.out.call B9.out.1)
                  refine (lv_find H9.out s.id 0).mono ?_
                  rintro e w10 ⟨rfl, hb⟩
                  rw [F6.out]
                  have B10 := Lib.hid (B9.out.call hb)
                  have X10 := Lib.hid (own_far X9.out.1 (far_of_below hb) (fun _ _ e => e))
                  have O10 := Lib.hid (own_far O9.out (far_of_below hb) (fun _ _ e => e))
                  clear hb c9 d0 d1 d2 d3
                  dsimp only
                  have B11 := Lib.hid (B10.out.alloc (.cells #[.int .i64 0, .int .i64 0, .int .i64 0, .int .i64 0] 29))
                  have X11 := Lib.hid (World.ownsRow.alloc X10.out (.cells #[.int .i64 0, .int .i64 0, .int .i64 0, .int .i64 0] 29))
                  have O11 := Lib.hid (World.ownsRow.alloc O10.out (.cells #[.int .i64 0, .int .i64 0, .int .i64 0, .int .i64 0] 29))
                  have c11 := (CL.out (w10.alloc (.cells #[.int .i64 0, .int .i64 0, .int .i64 0, .int .i64 0] 29)) B11.out.1).c0
                  go_wp2_with fail
                  generalize w10.heap.size = g1 at *
                  generalize w10.alloc (.cells #[.int .i64 0, .int .i64 0, .int .i64 0, .int .i64 0] 29) = w11 at *
                  have H11 := Lib.hid (H8.out.call B11.out.1)
                  refine (renew_err H11.out.lt s.id 0 6 (finds_err F6.out)).mono ?_
                  rintro e w12 ⟨rfl, hb⟩
                  have B12 := Lib.hid (B11.out.call hb)
                  have X12 := Lib.hid (own_far X11.out (far_of_below hb) (fun _ _ e => e))
                  have O12 := Lib.hid (own_far O11.out (far_of_below hb) (fun _ _ e => e))
                  clear hb c11
                  go_wp2_with fail
                  refine ⟨⟨k + 1, by go_num, by omega, Lib.hid ?_, Lib.hid ?_, Lib.hid X9.out.2, B12⟩, by simp [intOf]; omega⟩
                  · rw [FP.out, flatS_append, List.length_append]; exact O12.out
                  · rw [FQ.out]; exact X12.out
                · have hd' : a3 < s.dead := by omega
                  have FP : Hid ((t.all.take (k + 1)).filter (fun s => decide (s.dead ≤ a3)) = P) := Lib.hid (by rw [ht, List.filter_append, hPd]; simp [hd])
                  have FQ : Hid ((t.all.take (k + 1)).filter (fun s => decide (a3 < s.dead)) = Q ++ [s]) := Lib.hid (by rw [ht, List.filter_append, hQd]; simp [hd'])
                  rw [← hPd] at HP hP
                  rw [← hQd] at HQ hQ
                  have F6 : Hid (t1.finds s.id a3 = (s, 0)) := Lib.hid (EXP.out.2.2.2.2 s HMEM.out hd')
                  clear hat hs ht hPd hQd hd'
                  have N1 : Hid (Q.length + 1 ≤ 1000000) := Lib.hid (by omega)
                  have N2 : Hid (w8.heap.size ≤ (wr.alloc (.cells #[.int .i64 s.id, .int .i64 s.block, .int .i64 s.dead, .int .i64 s.last] 29)).heap.size) := Lib.hid (by have := HB.out.2; simp; omega)
                  have BA : Hid (Bl w8.heap.size w8 (wr.alloc (.cells #[.int .i64 s.id, .int .i64 s.block, .int .i64 s.dead, .int .i64 s.last] 29))) := Lib.hid (HB.out.alloc _)
                  have NC := Lib.hid (new_cells wr 29 [.int .i64 s.id, .int .i64 s.block, .int .i64 s.dead, .int .i64 s.last])
                  have OTH : Hid (∀ (v9 : Value) (w9 : World), (wr.alloc (.cells #[.int .i64 s.id, .int .i64 s.block, .int .i64 s.dead, .int .i64 s.last] 29)).grownBy w9 u17.ownBlock → (v9.ownBlock = u17.ownBlock ∨ v9.ownBlock = some (wr.alloc (.cells #[.int .i64 s.id, .int .i64 s.block, .int .i64 s.dead, .int .i64 s.last] 29)).heap.size) → w9.ownsRow w8.heap.size 29 4 u16 P.length (flatS P) ∧ ∀ b, v9.ownBlock = some b → u16.ownBlock ≠ some b) := Lib.hid (fun v9 w9 gr ho => by
                    have F : Far (fun j => u17.ownBlock = some j) wr w9 := ((Far.refl _ wr).alloc _).grown gr (fun j _ hj => hj)
                    refine ⟨own_far HP.out F (fun b hb e => SEP.out b hb e), fun b hb e => ?_⟩
                    rcases ho with h | h
                    · rw [h] at hb
                      exact SEP.out b e hb
                    · rw [h] at hb
                      cases hb
                      have h2 := (HP.out.lt _ e).2
                      have h3 : (wr.alloc (.cells #[.int .i64 s.id, .int .i64 s.block, .int .i64 s.dead, .int .i64 s.last] 29)).heap.size = wr.heap.size + 1 := by simp
                      omega)
                  go_wp2_with (at_builtin; (refine wpList_append_own (k := 4) (T := 29) (S := 30) elemSes infoSes rfl (by decide) (by decide) rfl _ _ rfl rfl w8.heap.size _ _ (flatS Q) wr.heap.size 0 1 1 [.int .i64 s.id, .int .i64 s.block, .int .i64 s.dead, .int .i64 s.last] rfl rfl (World.ownsRow.alloc HQ.out _) rfl NC.out (by simp [Value.oneCell']) N1.out N2.out ?_; intro v9 w9 own9 gr9 ho9; have b9 := BA.out.grownRow (World.ownsRow.alloc HQ.out _) (Nat.le_refl _) gr9; have B9 := Lib.hid b9; have O9 := Lib.hid own9; have X9 := Lib.hid (OTH.out v9 w9 gr9 ho9); have c9 := (CL.out w9 B9.out.1).c0; clear own9 gr9 ho9 b9))
                  have H9 := Lib.hid (H8.out.call B9.out.1)
                  refine (lv_find H9.out s.id a3).mono ?_
                  rintro e w10 ⟨rfl, hb⟩
                  rw [F6.out]
                  have B10 := Lib.hid (B9.out.call hb)
                  have X10 := Lib.hid (own_far X9.out.1 (far_of_below hb) (fun _ _ e => e))
                  have O10 := Lib.hid (own_far O9.out (far_of_below hb) (fun _ _ e => e))
                  clear hb c9 d0 d1 d2 d3
                  dsimp only
                  go_wp2_with fail
                  have KG := Blk.new w10 29 (sesC s)
                  have B11 := Lib.hid (B10.out.alloc (.cells (sesC s) 29))
                  have X11 := Lib.hid (World.ownsRow.alloc X10.out (.cells (sesC s) 29))
                  have O11 := Lib.hid (World.ownsRow.alloc O10.out (.cells (sesC s) 29))
                  unfold sesC at KG B11 X11 O11
                  generalize w10.heap.size = g1 at *
                  generalize w10.alloc (.cells #[.int .i64 s.id, .int .i64 s.block, .int .i64 s.dead, .int .i64 s.last] 29) = w12 at *
                  have SG : Hid (∀ W : World, Below w12.heap.size w12 W → SesAt W g1 0 s) := Lib.hid (fun W hW => SesAt.below ⟨by rw [KG.cell]; rfl, by rw [KG.cell]; rfl, by rw [KG.cell]; rfl, by rw [KG.cell]; rfl⟩ KG.lt hW)
                  have SW : Hid (∀ W : World, Below w12.heap.size w12 W → SesAt W b6 (o6 + k * 4) s) := Lib.hid (fun W hW => CL.out W (B11.out.1.trans ((far_of_below hW).below B11.out.2 (fun _ e => e.elim))))
                  have QE := Lib.hid (show decide (¬ s = s) = false by simp)
                  clear KG
                  have HB0 := Lib.hid (Bl.start w12)
                  go_upto_region 28 with (fail)
                  refine Segs.wp_region_perm Segs.Hist [(0, false), (1, false), (2, false), (3, false), (4, false), (5, false), (6, false), (7, false), (8, false), (9, false)] Segs.Hist.refl Segs.Hist.trans (by kernel_rfl) (by kernel_rfl) rfl (by kernel_rfl) (Segs.WP.out ?_)
                  have B2 := Lib.hid HB0.out.drew
                  generalize w12.drew = W1 at B2 ⊢
                  refine Segs.WP.val 0 rfl (some 133) (.int .i64 0) rfl (by kernel_rfl) (fun WW h => by kernel_rfl) ?_
                  simp only [Act.put, List.setIfInBounds_toArray, List.set_cons_zero, List.set_cons_succ]
                  refine Segs.WP.val 1 rfl (some 134) (.bool false) rfl (by kernel_rfl) (fun WW h => by kernel_rfl) ?_
                  simp only [Act.put, List.setIfInBounds_toArray, List.set_cons_zero, List.set_cons_succ]
                  refine Segs.WP.val 2 rfl (some 135) (.bool false) rfl (by kernel_rfl) (fun WW h => by kernel_rfl) ?_
                  simp only [Act.put, List.setIfInBounds_toArray, List.set_cons_zero, List.set_cons_succ]
                  refine Segs.WP.val 3 rfl (some 136) (.agg (sesC s)) rfl (by kernel_rfl) (fun WW h => run_ses (.tmp 22) rfl g1 0 (by kernel_rfl) _ (SG.out _ (B2.out.call h).1)) ?_
                  simp only [Act.put, List.setIfInBounds_toArray, List.set_cons_zero, List.set_cons_succ]
                  refine Segs.WP.val 4 rfl (some 137) (.slice (some ⟨b6, o6, none⟩) n6 c6) rfl (by kernel_rfl) (fun WW h => by kernel_rfl) ?_
                  simp only [Act.put, List.setIfInBounds_toArray, List.set_cons_zero, List.set_cons_succ]
                  refine Segs.WP.val 5 rfl (some 138) (.int .i64 ((k : Int))) rfl (by kernel_rfl) (fun WW h => by kernel_rfl) ?_
                  simp only [Act.put, List.setIfInBounds_toArray, List.set_cons_zero, List.set_cons_succ]
                  refine Segs.WP.val 6 rfl (some 139) (.pointer (some ⟨b6, (o6 + k * 4), none⟩)) rfl (by kernel_rfl) (fun WW h => run_indexSes rfl b6 o6 n6 c6 k (by kernel_rfl) (by kernel_rfl) IA.out) ?_
                  simp only [Act.put, List.setIfInBounds_toArray, List.set_cons_zero, List.set_cons_succ]
                  refine Segs.WP.val 7 rfl (some 140) (.agg (sesC s)) rfl (by kernel_rfl) (fun WW h => run_ses (.tmp 139) rfl b6 (o6 + k * 4) (by kernel_rfl) _ (SW.out _ (B2.out.call h).1)) ?_
                  simp only [Act.put, List.setIfInBounds_toArray, List.set_cons_zero, List.set_cons_succ]
                  refine Segs.WP.val 8 rfl (some 141) (.bool false) rfl (by kernel_rfl) (fun WW h => run_neSes rfl s s (by kernel_rfl) (by kernel_rfl) false QE.out) ?_
                  simp only [Act.put, List.setIfInBounds_toArray, List.set_cons_zero, List.set_cons_succ]
                  refine Segs.WP.val 9 rfl (some 142) (.bool false) rfl (by kernel_rfl) (fun WW h => by kernel_rfl) ?_
                  simp only [Act.put, List.setIfInBounds_toArray, List.set_cons_zero, List.set_cons_succ]
                  refine Segs.WP.fin (fun W3 hx => ?_)
                  have B4 := Lib.hid (B2.out.call hx)
                  clear hx
                  go_wp2_with fail
                  refine ⟨⟨k + 1, by go_num, by omega, Lib.hid ?_, Lib.hid ?_, Lib.hid ?_, Lib.hid (B11.out.call B4.out.1)⟩, by simp [intOf]; omega⟩
                  · rw [FP.out]; exact own_far X11.out (far_of_below B4.out.1) (fun _ _ e => e)
                  · rw [FQ.out, flatS_append, List.length_append]; exact own_far O11.out (far_of_below B4.out.1) (fun _ _ e => e)
                  · intro b h1 h2; exact X9.out.2 b h2 h1
              · obtain rfl : k = n6 := by omega
                have hp := HP.out
                have hq := HQ.out
                rw [HN6.out, List.take_length, ← EXP.out.1] at hp
                rw [HN6.out, List.take_length, ← EXP.out.2.1] at hq
                have H9 := Lib.hid (H8.out.call HB.out.1)
                have E9 := Lib.hid (E8.out.call HB.out.1)
                obtain ⟨Ap, cp, rfl⟩ := own_sl hp
                obtain ⟨Aq, cq, rfl⟩ := own_sl hq
                have hx4 : x1.length ≤ 4 := by rw [EXP.out.1]; exact Nat.le_trans (List.length_filter_le _ _) (by rw [← HN6.out]; exact n4)
                have r1 : Rs wr A7 x1 := by obtain ⟨A, c, e, h⟩ := Rs.of_own E9.out.1; cases e; exact h
                have r2 : Rs wr Ap x1 := by obtain ⟨A, c, e, h⟩ := Rs.of_own hp; cases e; exact h
                have r3 : Rs wr Aq t1.all := by obtain ⟨A, c, e, h⟩ := Rs.of_own hq; cases e; exact h
                have R1 := Lib.hid r1
                have R2 := Lib.hid r2
                have R3 := Lib.hid r3
                clear hp hq r1 r2 r3 HP HQ SEP
                go_wp2_with fail
                refine (same_ses wr A7 Ap c7 cp x1 x1 R1.out R2.out (by omega)).mono ?_
                rintro e w10 ⟨rfl, hb⟩
                have H10 := Lib.hid (H9.out.call hb)
                have R4 := Lib.hid (R3.out.below hb)
                rw [show decide (x1 = x1) = true from decide_eq_true rfl]
                clear hb
                go_wp2_with fail
                refine (lv_all H10.out).mono ?_
                rintro e w11 ⟨v11, rfl, _, hr, hb⟩
                have H11 := Lib.hid (H10.out.call hb)
                have R5 := Lib.hid (R4.out.below hb)
                have Q5 := Lib.hid hr.1
                clear hr hb
                obtain ⟨A11, c11, rfl⟩ := own_sl Q5.out
                go_wp2_with fail
                have r5 : Rs w11 A11 t1.all := by obtain ⟨A, c, e, h⟩ := Rs.of_own Q5.out; cases e; exact h
                refine (same_ses w11 A11 Aq c11 cq t1.all t1.all r5 R5.out (by have := all_four t1; omega)).mono ?_
                rintro e w12 ⟨rfl, hb⟩
                have H12 := Lib.hid (H11.out.call hb)
                rw [show decide (t1.all = t1.all) = true from decide_eq_true rfl]
                clear hb r5
                go_wp2_with fail
                go_ret
                exact ⟨rfl, H12.out.below⟩
end Go.Proofs.Ytjladlniilacjaa
