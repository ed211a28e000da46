/-
  The walk of the law LeaseReleases.
-/
import Derived.Test.YtjladlniilacjaaLeaWorks
import Derived.Test.YtjladlniilacjaaLeaSame
import Derived.Test.YtjladlniilacjaaLeaPost
namespace Go.Proofs.Ytjladlniilacjaa
open Go.RowKit Go.Proofs.Lea
set_option linter.unusedVariables false
set_option linter.unusedSimpArgs false
set_option maxRecDepth 100000 in
set_option maxHeartbeats 4000000 in
theorem releases_walk (w : World) (a0 a1 : Int) (A2 : Option Addr) (c2 : Nat) (l2 : List Deed) (S2 : Lk w A2 l2) (a3 a4 : Int) :
    Calls Try.prog 6 #[.int .i64 a0, .int .i64 a1, .slice A2 l2.length c2, .int .i64 a3, .int .i64 a4] w fun e w' => e = .returned (.bool true) ∧ Below w.heap.size w w' := by
  have HS := Lib.hid S2
  clear S2
  go_enter Try.func6, Try.ntmps6
  go_wp2_with fail
  refine (lworks_any _).mono ?_
  rintro e w1 ⟨rfl, hb1⟩
  have HB1 := Lib.hid hb1
  clear hb1
  go_wp2_with fail
  refine (lv_new (w0 := w) a0 a1 HB1.out).mono ?_
  rintro e w2 ⟨rfl, hM⟩
  have H2 := Lib.hid hM
  clear hM
  generalize w1.heap.size = m at *
  go_wp2_with fail
  refine (lfew_any A2 c2 l2 w2 (HS.out.below H2.out.below)).mono ?_
  rintro e w3 ⟨rfl, rfl⟩
  rcases hf : lfewF l2 with _ | _
  · go_wp2_with fail
    go_ret
    exact ⟨rfl, H2.out.below⟩
  · obtain ⟨hl60, hks⟩ := lfewF_true hf
    have HKS := Lib.hid hks
    clear hf hks
    by_cases b1 : a4 < 0
    · go_wp2_with fail
      go_ret
      exact ⟨rfl, H2.out.below⟩
    · by_cases b2 : (1000000 : Int) < a4
      · go_wp2_with fail
        go_ret
        exact ⟨rfl, H2.out.below⟩
      · have HCL := Lib.hid (show 0 ≤ a4 ∧ a4 ≤ 1000000 by omega)
        go_wp2_with fail
        go_loopw [14] (fun vi wr => ∃ k : Nat, vi = .int .i64 (k : Int) ∧ k ≤ l2.length ∧ Hid (∃ t vs ve, Lv w m t vs ve wr ∧ t.opened ≤ k)) (fun vi _ => l2.length - (intOf vi).toNat)
        case atStart => exact ⟨0, rfl, Nat.zero_le _, Lib.hid ⟨_, _, _, H2.out, Nat.zero_le _⟩⟩
        case round =>
          obtain ⟨k, rfl, hk, HM⟩ := hrel
          obtain ⟨t, vs, ve, hC, hto⟩ := HM.out
          have H := Lib.hid hC
          have HTO := Lib.hid hto
          clear HM hC hto
          by_cases hlt : k < l2.length
          · obtain ⟨a, ha⟩ : ∃ a, l2[k]? = some a := ⟨_, List.getElem?_eq_getElem hlt⟩
            have hmild := Lib.hid (HKS.out a (List.mem_of_getElem? ha))
            obtain ⟨b, o, rfl, hbl, HC⟩ := (HS.out.below H.out.below).at_ k a ha
            obtain ⟨d0, d1, d2, d3, d4, d5⟩ := HC
            have j1 : (k : Int) < (l2.length : Int) := by omega
            have wk : IntKind.i64.wrap ((k : Int) + 1) = (k : Int) + 1 := IntWalk.i64_in _ (by omega)
            clear ha
            go_wp2_with fail
            refine (do_any H.out a hmild.out).mono ?_
            rintro e w4 ⟨va, rfl, ⟨vs4, ve4, h4, _⟩, _⟩
            have H4 := Lib.hid h4
            clear h4
            go_wp2_with fail
            exact ⟨⟨k + 1, by go_num, by omega, Lib.hid ⟨_, _, _, H4.out, does_step t a k HTO.out⟩⟩, by simp [intOf]; omega⟩
          · obtain rfl : k = l2.length := by omega
            go_wp2_with fail
            refine (lv_find H.out a3 a4).mono ?_
            rintro e w4 ⟨rfl, h⟩
            have H4 := Lib.hid (H.out.call h)
            clear h
            have F0 : Hid ((t.finds a3 a4).2 = 0 → ∃ t', t.release a3 a4 = (t', (t.finds a3 a4).1.block, 0) ∧ t'.all = t.all.filter (fun s => decide (s.id ≠ a3)) ∧ (∀ seq, (t'.replay a3 seq).2 = 5) ∧ (∀ seq x, t'.store a3 seq x = (t', 5)) ∧ (∀ c, t'.renew a3 c = (t', 5)) ∧ ∀ b c, (t'.opens b c).2.2 = 0) := Lib.hid (fun h => released H4.out.lt.ok h (by have := HTO.out; omega))
            have F1 : Hid ((t.finds a3 a4).2 ≠ 0 → (t.release a3 a4).1 = t ∧ (t.release a3 a4).2.2 = (t.finds a3 a4).2) := Lib.hid (fun h => release_err h)
            obtain ⟨s1, hs1⟩ : ∃ s, s = (t.finds a3 a4).1 := ⟨_, rfl⟩
            obtain ⟨e1, he1⟩ : ∃ s, s = (t.finds a3 a4).2 := ⟨_, rfl⟩
            rw [← hs1, ← he1]
            rw [← hs1, ← he1] at F0
            rw [← he1] at F1
            clear hs1 he1
            go_wp2_with fail
            have S5 := Lib.hid (H4.out.nblk #[.int .i64 s1.id, .int .i64 s1.block, .int .i64 s1.dead, .int .i64 s1.last] 29)
            have H5 := Lib.hid (H4.out.alloc (.cells #[.int .i64 s1.id, .int .i64 s1.block, .int .i64 s1.dead, .int .i64 s1.last] 29))
            generalize w4.heap.size = g1 at *
            generalize w4.alloc (.cells #[.int .i64 s1.id, .int .i64 s1.block, .int .i64 s1.dead, .int .i64 s1.last] 29) = w5 at *
            refine (lv_all H5.out).mono ?_
            rintro e w6 ⟨v6, rfl, _, hr6, hb⟩
            have H6 := Lib.hid (H5.out.call hb)
            have S6 := Lib.hid (S5.out.call hb)
            have R6 := Lib.hid hr6
            clear hr6 hb
            obtain ⟨A6, c6, rfl⟩ := own_sl R6.out.1
            go_wp2_with fail
            refine (lv_release H6.out a3 a4).mono ?_
            rintro e w7 ⟨rfl, vs7, ve7, h7, hk7⟩
            have R7 := Lib.hid (hk7.row R6.out)
            have S7 := Lib.hid (hk7.blk S6.out)
            by_cases he : e1 = 0
            · obtain ⟨t', hrel, hall, hrep, hsto, hren, hopn⟩ := F0.out he
              rw [hrel] at h7 ⊢
              have H7 : Hid (Lv w m t' vs7 ve7 w7) := Lib.hid h7
              have HALL := Lib.hid hall
              have HREP := Lib.hid hrep
              have HSTO := Lib.hid hsto
              have HREN := Lib.hid hren
              have HOPN := Lib.hid hopn
              subst he
              clear h7 hk7 hrel hall hrep hsto hren hopn F0 F1
              dsimp only
              go_wp2_with fail
              go_loopw [20, 21] (fun vl vi wr => ∃ k : Nat, vi = .int .i64 (k : Int) ∧ k ≤ t.all.length ∧ Hid (wr.ownsRow w7.heap.size 29 4 vl ((t.all.take k).filter (fun s => decide (s.id ≠ a3))).length (flatS ((t.all.take k).filter (fun s => decide (s.id ≠ a3))))) ∧ Hid (Bl w7.heap.size w7 wr)) (fun _ vi _ => t.all.length - (intOf vi).toNat)
              case atStart => exact ⟨0, rfl, Nat.zero_le _, Lib.hid (ownsRow_nil _ _ _ _), Lib.hid (Bl.start w7)⟩
              case round =>
                obtain ⟨k, rfl, hk, HO, HB⟩ := hrel
                by_cases hlt : k < t.all.length
                · obtain ⟨s, hs⟩ : ∃ s, t.all[k]? = some s := ⟨_, List.getElem?_eq_getElem hlt⟩
                  obtain ⟨b6, o6, rfl, hb6, hat⟩ := own_at (R7.out.call HB.out.1).1 k s hs
                  obtain ⟨d0, d1, d2, d3⟩ := hat k s hs
                  have n4 := all_four t
                  have i1 : (k : Int) < (t.all.length : Int) := by omega
                  have wk : IntKind.i64.wrap ((k : Int) + 1) = (k : Int) + 1 := IntWalk.i64_in _ (by omega)
                  have ht : t.all.take (k + 1) = t.all.take k ++ [s] := by rw [List.take_add_one, hs]; rfl
                  by_cases hid : s.id = a3
                  · have HF : Hid ((t.all.take (k + 1)).filter (fun s => decide (s.id ≠ a3)) = (t.all.take k).filter (fun s => decide (s.id ≠ a3))) := Lib.hid (by rw [ht, List.filter_append]; simp [hid])
                    have e0 : (s.id != a3) = false := by simpa using hid
                    clear hat hs ht
                    go_wp2_with fail
                    exact ⟨⟨k + 1, by go_num, by omega, Lib.hid (by rw [HF.out]; exact HO.out), HB⟩, by simp [intOf]; omega⟩
                  · have HF : Hid ((t.all.take (k + 1)).filter (fun s => decide (s.id ≠ a3)) = (t.all.take k).filter (fun s => decide (s.id ≠ a3)) ++ [s]) := Lib.hid (by rw [ht, List.filter_append]; simp [hid])
                    have e0 : (s.id != a3) = true := by simpa using hid
                    have hfl : ((t.all.take k).filter (fun s => decide (s.id ≠ a3))).length ≤ k := Nat.le_trans (List.length_filter_le _ _) (by rw [List.length_take]; omega)
                    obtain ⟨L, hL⟩ : ∃ L, L = (t.all.take k).filter (fun s => decide (s.id ≠ a3)) := ⟨_, rfl⟩
                    rw [← hL] at HF HO hfl
                    have N1 : Hid (L.length + 1 ≤ 1000000) := Lib.hid (by omega)
                    have N2 : Hid (w7.heap.size ≤ (wr.alloc (.cells #[.int .i64 s.id, .int .i64 s.block, .int .i64 s.dead, .int .i64 s.last] 29)).heap.size) := Lib.hid (by have := HB.out.2; simp; omega)
                    have BA : Hid (Bl w7.heap.size w7 (wr.alloc (.cells #[.int .i64 s.id, .int .i64 s.block, .int .i64 s.dead, .int .i64 s.last] 29))) := Lib.hid (HB.out.alloc _)
                    have NC := Lib.hid (new_cells wr 29 [.int .i64 s.id, .int .i64 s.block, .int .i64 s.dead, .int .i64 s.last])
                    clear hat hs ht hL hfl
                    go_wp2_with (at_builtin; (refine wpList_append_own (k := 4) (T := 29) (S := 30) elemSes infoSes rfl (by decide) (by decide) rfl _ _ rfl rfl w7.heap.size _ _ (flatS L) wr.heap.size 0 1 1 [.int .i64 s.id, .int .i64 s.block, .int .i64 s.dead, .int .i64 s.last] rfl rfl (World.ownsRow.alloc HO.out _) rfl NC.out (by simp [Value.oneCell']) N1.out N2.out ?_; intro v8 w8 own8 gr8 _; have b8 := BA.out.grownRow (World.ownsRow.alloc HO.out _) (Nat.le_refl _) gr8; have B8 := Lib.hid b8; have O8 := Lib.hid own8; clear own8 gr8 b8))
                    refine ⟨⟨k + 1, by go_num, by omega, Lib.hid ?_, B8⟩, by simp [intOf]; omega⟩
                    rw [HF.out, flatS_append, List.length_append]
                    exact O8.out
                · obtain rfl : k = t.all.length := by omega
                  have H8 := Lib.hid (H7.out.call HB.out.1)
                  have S8 := Lib.hid (S7.out.call HB.out.1)
                  have hl := H7.out.new HB.out.1 HO.out
                  rw [List.take_length, ← HALL.out] at hl
                  have R8 := Lib.hid hl
                  clear hl
                  obtain ⟨A8, c8, rfl⟩ := own_sl R8.out.1
                  go_wp2_with fail
                  refine (replay_any H8.out.lt a3 1).mono ?_
                  rintro e w9 ⟨rfl, hb⟩
                  have H9 := Lib.hid (H8.out.call hb)
                  have S9 := Lib.hid (S8.out.call hb)
                  have R9 := Lib.hid (R8.out.call hb)
                  rw [HREP.out]
                  clear hb
                  go_wp2_with fail
                  refine (lv_store H9.out a3 1000000 ⟨#[120]⟩).mono ?_
                  rintro e w10 ⟨rfl, vs10, ve10, h10, hk10⟩
                  rw [HSTO.out] at h10 ⊢
                  have H10 : Hid (Lv w m t' vs10 ve10 w10) := Lib.hid h10
                  have S10 := Lib.hid (hk10.blk S9.out)
                  have R10 := Lib.hid (hk10.row R9.out)
                  clear h10 hk10
                  go_wp2_with fail
                  refine (lv_renew H10.out a3 a4 HCL.out).mono ?_
                  rintro e w11 ⟨rfl, vs11, ve11, h11, hk11⟩
                  rw [HREN.out] at h11 ⊢
                  have H11 : Hid (Lv w m t' vs11 ve11 w11) := Lib.hid h11
                  have S11 := Lib.hid (hk11.blk S10.out)
                  have R11 := Lib.hid (hk11.row R10.out)
                  clear h11 hk11
                  go_wp2_with fail
                  refine (lv_all H11.out).mono ?_
                  rintro e w12 ⟨v12, rfl, _, hr12, hb⟩
                  have H12 := Lib.hid (H11.out.call hb)
                  have S12 := Lib.hid (S11.out.call hb)
                  have R12 := Lib.hid (R11.out.call hb)
                  have Q12 := Lib.hid hr12
                  clear hr12 hb
                  obtain ⟨A12, c12, rfl⟩ := own_sl Q12.out.1
                  go_wp2_with fail
                  have r1 : Rs w12 A12 t'.all := by obtain ⟨A, c, e, h⟩ := Rs.of_own Q12.out.1; cases e; exact h
                  have r2 : Rs w12 A8 t'.all := by obtain ⟨A, c, e, h⟩ := Rs.of_own R12.out.1; cases e; exact h
                  refine (same_ses w12 A12 A8 c12 c8 t'.all t'.all r1 r2 (by have := all_four t'; omega)).mono ?_
                  rintro e w13 ⟨rfl, hb⟩
                  have H13 := Lib.hid (H12.out.call hb)
                  have S13 := Lib.hid (S12.out.call hb)
                  rw [show decide (t'.all = t'.all) = true from decide_eq_true rfl]
                  clear hb r1 r2
                  go_wp2_with fail
                  refine (lv_open H13.out 1 a4 HCL.out).mono ?_
                  rintro e w14 ⟨rfl, vs14, ve14, h14, hk14⟩
                  rw [HOPN.out]
                  have H14 := Lib.hid h14
                  have S14 := Lib.hid (hk14.blk S13.out)
                  have p1 : w14.cell? ⟨g1, 1, none⟩ = some (.int .i64 s1.block) := by rw [S14.out.1.cell]; rfl
                  clear h14 hk14
                  go_wp2_with fail
                  go_ret
                  exact ⟨rfl, H14.out.below⟩
            · obtain ⟨f1, f2⟩ := F1.out he
              rw [f2]
              rw [f1] at h7
              have H7 := Lib.hid h7
              have e0 : (e1 == 0) = false := by simpa using he
              have e0' : (e1 != 0) = true := by simpa using he
              clear h7 hk7 f1 f2 F0 F1
              go_wp2_with fail
              refine (lv_all H7.out).mono ?_
              rintro e w8 ⟨v8, rfl, _, hr8, hb⟩
              have H8 := Lib.hid (H7.out.call hb)
              have R8 := Lib.hid (R7.out.call hb)
              have Q8 := Lib.hid hr8
              clear hr8 hb
              obtain ⟨A8, c8, rfl⟩ := own_sl Q8.out.1
              go_wp2_with fail
              have r1 : Rs w8 A8 t.all := by obtain ⟨A, c, e, h⟩ := Rs.of_own Q8.out.1; cases e; exact h
              have r2 : Rs w8 A6 t.all := by obtain ⟨A, c, e, h⟩ := Rs.of_own R8.out.1; cases e; exact h
              refine (same_ses w8 A8 A6 c8 c6 t.all t.all r1 r2 (by have := all_four t; omega)).mono ?_
              rintro e w9 ⟨rfl, hb⟩
              have H9 := Lib.hid (H8.out.call hb)
              rw [show decide (t.all = t.all) = true from decide_eq_true rfl]
              go_wp2_with fail
              go_ret
              exact ⟨rfl, H9.out.below⟩
end Go.Proofs.Ytjladlniilacjaa
