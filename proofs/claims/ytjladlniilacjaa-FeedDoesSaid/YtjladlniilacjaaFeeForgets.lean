/-
  The walk of the law FeedForgets.
-/
import Derived.Test.YtjladlniilacjaaFeeWorks
namespace Go.Proofs.Fee
theorem delK_off {α : Type} {ks : Keyz α} {s : Int} (h : hasK ks s = false) : delK ks s = ks := by
  unfold delK
  rw [List.filter_eq_self]
  intro p hp
  have : ¬ p.1 = s := fun e => by
    rw [Bool.eq_false_iff] at h
    exact h (hasK_iff.2 ⟨p.2, by rw [← e]; exact hp⟩)
  simpa using this
theorem folls_drop {rows : Keyz Row} (h : Up rows) (s : Int) : folls (delK rows s) + bn ((atK rows s).getD r0).fol = folls rows := by
  induction rows with
  | nil => rfl
  | cons p r ih =>
    obtain ⟨h1, h2⟩ := List.pairwise_cons.1 h
    have := ih h2
    by_cases he : p.1 = s
    · have e : atK (p :: r) s = some p.2 := by unfold atK; rw [List.find?_cons]; simp [he]
      have ed : delK (p :: r) s = r := by
        have : delK (p :: r) s = delK r s := by unfold delK; rw [List.filter_cons]; simp [he]
        rw [this]
        refine delK_off ?_
        rw [Bool.eq_false_iff]
        intro h3
        obtain ⟨y, hy⟩ := hasK_iff.1 h3
        have := h1 _ hy
        simp only at this
        omega
      rw [e, ed, folls_cons]
      simp only [Option.getD_some]
      omega
    · have e : atK (p :: r) s = atK r s := by unfold atK; rw [List.find?_cons]; simp [he]
      have ed : delK (p :: r) s = p :: delK r s := by unfold delK; rw [List.filter_cons]; simp [he]
      rw [e, ed, folls_cons, folls_cons]
      omega
theorem gone_row {t : Tbl} (h : t.Ok) (s : Int) : (t.del s).row s = r0 := by rw [row_del h.up, if_pos rfl]
theorem gone_pop {t : Tbl} (h : t.Ok) (s : Int) : (t.del s).pop s = (t.del s, n0, false) := by unfold Tbl.pop; rw [gone_row h]; rfl
theorem gone_key (t : Tbl) (s : Int) : s ∉ (t.del s).keys := by
  intro h
  obtain ⟨p, hp, e⟩ := List.mem_map.1 h
  exact (delK_mem.1 hp).2 e
theorem gone_wait {t : Tbl} (h : t.Ok) (s : Int) : ((t.del s).sub s).1.wait s = 0 := by
  unfold Tbl.sub
  split
  · unfold Tbl.wait; rw [gone_row h]; rfl
  · unfold Tbl.wait; rw [row_put (delK_up h.up s), if_pos rfl, gone_row h]; rfl
theorem gone_again {t : Tbl} (h : t.Ok) (s : Int) : (!t.fol s || ((t.del s).sub s).2) = true := by
  have h1 := folls_drop h.up s
  have h2 := h.four
  have h3 : (t.del s).fol s = false := by unfold Tbl.fol; rw [gone_row h]; rfl
  cases hf : t.fol s with
  | false => rfl
  | true =>
    have h4 : ((atK t.rows s).getD r0).fol = true := hf
    rw [h4] at h1
    simp only [bn, if_true] at h1
    have h5 : ¬ ((t.del s).fol s = true ∨ folls (t.del s).rows = 4) := by
      rw [h3]
      show ¬ (false = true ∨ folls (delK t.rows s) = 4)
      simp only [Bool.false_eq_true, false_or]
      omega
    unfold Tbl.sub
    rw [if_neg h5]
    rfl
end Go.Proofs.Fee
namespace Go.Proofs.Ytjladlniilacjaa
open Go.RowKit Go.Proofs.Fee
set_option linter.unusedVariables false
set_option linter.unusedSimpArgs false
set_option maxRecDepth 100000 in
set_option maxHeartbeats 1000000 in
theorem forgets_walk (w : World) (a0 : Int) (A1 : Option Addr) (c1 : Nat) (l1 : List Deed) (S1 : Lk w A1 l1) (z1 : ∀ x ∈ l1, x.wf) (a2 : Int) (w2 : wfI a2) :
    Calls Try.prog 10 #[.int .i64 a0, .slice A1 l1.length c1, .int .i64 a2] w fun e w' => e = .returned (.bool true) ∧ Below w.heap.size w w' := by
  have HS := Lib.hid S1
  have HZ := Lib.hid z1
  have HW := Lib.hid w2
  clear S1 z1 w2
  go_enter Try.func10, Try.ntmps10
  go_wp2_with fail
  refine (fworks_any _).mono ?_
  rintro e w1 ⟨rfl, hb1⟩
  have HB1 := Lib.hid hb1
  clear hb1
  go_wp2_with fail
  refine (fl_new (w0 := w) a0 HB1.out).mono ?_
  rintro e w2 ⟨rfl, hM, _⟩
  have H2 := Lib.hid hM
  clear hM
  generalize w1.heap.size = B at *
  generalize B + 1 = m at *
  go_wp2_with fail
  refine (ffew_any A1 c1 l1 w2 (HS.out.below H2.out.below)).mono ?_
  rintro e w3 ⟨rfl, rfl⟩
  rcases hf : ffewF l1 with _ | _
  · go_wp2_with fail
    go_ret
    exact ⟨rfl, H2.out.below⟩
  · obtain ⟨hl60, hks⟩ := ffewF_true hf
    clear hf hks
    go_wp2_with fail
    go_loopw [10] (fun vi wr => ∃ k : Nat, vi = .int .i64 (k : Int) ∧ k ≤ l1.length ∧ Hid (∃ t rs, Fl w B m B t rs wr ∧ t.rows.length ≤ k)) (fun vi _ => l1.length - (intOf vi).toNat)
    case atStart => exact ⟨0, rfl, Nat.zero_le _, Lib.hid ⟨_, _, H2.out, Nat.le_refl _⟩⟩
    case round =>
      obtain ⟨k, rfl, hk, HM⟩ := hrel
      obtain ⟨t, rs, hC, hL⟩ := HM.out
      have H := Lib.hid hC
      have HL := Lib.hid hL
      clear HM hC hL
      by_cases hlt : k < l1.length
      · obtain ⟨a, ha⟩ : ∃ a, l1[k]? = some a := ⟨_, List.getElem?_eq_getElem hlt⟩
        have hwf := Lib.hid (HZ.out a (List.mem_of_getElem? ha))
        obtain ⟨b, o, rfl, hbl, HC⟩ := (HS.out.below H.out.below).at_ k a ha
        obtain ⟨d0, d1, d2, d3⟩ := HC
        have j1 : (k : Int) < (l1.length : Int) := by omega
        have wk : IntKind.i64.wrap ((k : Int) + 1) = (k : Int) + 1 := IntWalk.i64_in _ (by omega)
        clear ha
        go_wp2_with fail
        refine (fl_do H.out a hwf.out (by have := HL.out; omega)).mono ?_
        rintro e w4 ⟨vl, vc, rfl, rs4, h4, _⟩
        have H4 := Lib.hid h4
        clear h4
        go_wp2_with fail
        exact ⟨⟨k + 1, by go_num, by omega, Lib.hid ⟨_, _, H4.out, by have := does_le H.out.fd.ok a; have := HL.out; omega⟩⟩, by simp [intOf]; omega⟩
      · obtain rfl : k = l1.length := by omega
        have AG := Lib.hid (gone_again H.out.fd.ok a2)
        have GP := Lib.hid (gone_pop H.out.fd.ok a2)
        have GW := Lib.hid (gone_wait H.out.fd.ok a2)
        have GK := Lib.hid (gone_key t a2)
        have WA := Lib.hid (waiting_any H.out.fd a2 HW.out)
        have FO := Lib.hid (follows_any H.out.fd a2 HW.out)
        have FG := Lib.hid (fl_forget H.out a2 HW.out)
        have HL2 : Hid ((t.del a2).rows.length ≤ 1000) := Lib.hid (by have := delK_le t.rows a2; have := HL.out; show (delK t.rows a2).length ≤ _; omega)
        unfold Tbl.forget at FG
        dsimp only at FG
        obtain ⟨n, hn⟩ : ∃ n, n = t.wait a2 := ⟨_, rfl⟩
        rw [← hn] at WA FG
        obtain ⟨fb, hfb⟩ : ∃ n, n = t.fol a2 := ⟨_, rfl⟩
        rw [← hfb] at FO AG
        obtain ⟨t1, ht1⟩ : ∃ x, x = t.del a2 := ⟨_, rfl⟩
        rw [← ht1] at AG GP GW GK FG HL2
        clear hn hfb ht1
        go_wp2_with fail
        refine WA.out.mono ?_
        rintro e w' ⟨rfl, rfl⟩
        go_wp2_with fail
        refine FO.out.mono ?_
        rintro e w' ⟨rfl, rfl⟩
        go_wp2_with fail
        refine FG.out.mono ?_
        rintro e w5 ⟨rfl, rs5, h5, _⟩
        have H5 := Lib.hid h5
        clear h5 H WA FO FG HL
        go_wp2_with fail
        refine (fl_pop H5.out a2 HW.out).mono ?_
        rintro e w6 ⟨A6, k6, c6, rfl, _, rs6, h6, _⟩
        rw [GP.out] at h6 ⊢
        have H6 := Lib.hid h6
        clear h6 H5
        dsimp only [n0, e0]
        go_wp2_with fail
        have H7 := Lib.hid (H6.out.alloc (.cells #[.int .i64 0, .int .i64 0, .int .i64 0, .string ⟨#[]⟩, .slice A6 k6 c6] 63))
        generalize w6.heap.size = g7 at *
        generalize w6.alloc (.cells #[.int .i64 0, .int .i64 0, .int .i64 0, .string ⟨#[]⟩, .slice A6 k6 c6] 63) = w7 at *
        clear H6
        refine (fl_sessions H7.out HL2.out).mono ?_
        rintro e w8 ⟨A8, c8, rfl, h8, hr, _⟩
        have H8 := Lib.hid h8
        have HR := Lib.hid hr
        clear h8 hr H7
        have hkl : t1.keys.length ≤ 1000 := by have := HL2.out; unfold Tbl.keys; rw [List.length_map]; exact this
        obtain ⟨ks, hks⟩ : ∃ x, x = t1.keys := ⟨_, rfl⟩
        rw [← hks] at HR GK hkl ⊢
        clear hks
        go_wp2_with fail
        go_loopw [17] (fun vi wr => ∃ j : Nat, vi = .int .i64 (j : Int) ∧ j ≤ ks.length ∧ wr = w8) (fun vi _ => ks.length - (intOf vi).toNat)
        case atStart => exact ⟨0, rfl, Nat.zero_le _, rfl⟩
        case round =>
          obtain ⟨j, rfl, hj, rfl⟩ := hrel
          by_cases hlj : j < ks.length
          · obtain ⟨x, hx⟩ : ∃ x, ks[j]? = some x := ⟨_, List.getElem?_eq_getElem hlj⟩
            obtain ⟨g, rfl, hg, hc⟩ := ints_at HR.out.1 hlj
            have q := hc j x hx
            have hne : ¬ x = a2 := fun e => GK.out (by rw [← e]; exact List.mem_of_getElem? hx)
            have j1 : (j : Int) < (ks.length : Int) := by omega
            have wj : IntKind.i64.wrap ((j : Int) + 1) = (j : Int) + 1 := IntWalk.i64_in _ (by omega)
            clear hc hx
            go_wp2_with fail
            exact ⟨⟨j + 1, by go_num, by omega, trivial⟩, by simp [intOf]; omega⟩
          · obtain rfl : j = ks.length := by omega
            go_wp2_with fail
            refine (fl_sub H8.out a2 HW.out HL2.out).mono ?_
            rintro e w9 ⟨rfl, rs9, h9, _⟩
            have H9 := Lib.hid h9
            clear h9 H8
            have WA := Lib.hid (waiting_any H9.out.fd a2 HW.out)
            rw [GW.out] at WA
            have ag := AG.out
            clear AG
            generalize (t1.sub a2).2 = sb at *
            cases fb with
            | false =>
              clear ag
              go_wp2_with fail
              refine WA.out.mono ?_
              rintro e w' ⟨rfl, rfl⟩
              go_wp2_with fail
              go_ret
              exact ⟨rfl, H9.out.below⟩
            | true =>
              cases sb with
              | false => exact absurd ag (by decide)
              | true =>
                clear ag
                go_wp2_with fail
                refine WA.out.mono ?_
                rintro e w' ⟨rfl, rfl⟩
                go_wp2_with fail
                go_ret
                exact ⟨rfl, H9.out.below⟩
end Go.Proofs.Ytjladlniilacjaa
