/-
  The walk of the law FeedOthers; an act among the parameters.
-/
import Derived.Test.YtjladlniilacjaaFeeWorks
namespace Go.Proofs.Fee
theorem tidy_other {t : Tbl} (h : Up t.rows) {s u : Int} (hu : ¬ u = s) : (t.tidy s).row u = t.row u := by
  unfold Tbl.tidy
  split
  · rw [row_del h, if_neg hu]
  · rfl
theorem does_other {t : Tbl} (h : t.Ok) (a : Deed) (u : Int) (h2 : ¬ a.k = 2) (hu : ¬ a.s = u) : (t.does a).1.row u = t.row u := by
  have hu' : ¬ u = a.s := fun e => hu e.symm
  unfold Tbl.does
  split
  · unfold Tbl.sub
    split
    · rfl
    · rw [row_put h.up, if_neg hu']
  · split
    · unfold Tbl.unsub
      split
      · rw [tidy_other (putK_up h.up _ _) hu', row_put h.up, if_neg hu']
      · rfl
    · split
      · unfold Tbl.pop
        split
        · rw [tidy_other (putK_up h.up _ _) hu', row_put h.up, if_neg hu']
        · rfl
      · show (t.del a.s).row u = _
        rw [row_del h.up, if_neg hu']
end Go.Proofs.Fee
namespace Go.Proofs.Ytjladlniilacjaa
open Go.RowKit Go.ChangeShapes Go.WideShapes Go.Proofs.Fee
set_option linter.unusedVariables false
set_option linter.unusedSimpArgs false
set_option maxRecDepth 100000 in
theorem open_act {H : Type} {enc : TypeId × Value → H} {W : World} {v : Value} {d : DataW H} {p : List MemPlace} (hv : Value.okWide Try.prog W .any 0 68 v) (h : DataW.Trod enc Try.prog W 0 (fun _ => true) true 68 v d p) :
    ∃ a : Deed, v = .agg #[.int .i64 a.k, .int .i64 a.s, .int .i64 a.b, .string a.r] ∧ p = [] ∧ a.wf ∧ ∀ (W' : World) (sp : Nat → Bool), DataW.Trod enc Try.prog W' 0 sp true 68 (.agg #[.int .i64 a.k, .int .i64 a.s, .int .i64 a.b, .string a.r]) d [] := by
  obtain ⟨cs, rfl, hsz⟩ := okWide_struct Try.underlying68 hv
  obtain ⟨fuel, hf⟩ := h
  have hC : Try.prog.cellsOf 68 = 4 := by kernel_rfl
  have hI : Try.prog.cellsOf 3 = 1 := by kernel_rfl
  have hS : Try.prog.cellsOf 9 = 1 := by kernel_rfl
  obtain ⟨l⟩ := cs
  obtain ⟨v0, v1, v2, v3, rfl⟩ := list4 (show l.length = 4 from hsz.trans hC)
  have hf' : DataW.trod enc Try.prog W 0 (fun _ => true) true fuel 68 [v0, v1, v2, v3] = some (d, p) := hf
  obtain ⟨y0, y1, y2, y3, q, hx, t0, t1, t2, t3⟩ := struct4 Try.underlying68 hf'
  simp only [hI, hS, List.drop, List.take] at t0 t1 t2 t3
  obtain ⟨k, e0, rfl, w0⟩ := DataW.trod_int Try.underlying3 t0
  obtain ⟨s, e1, rfl, w1⟩ := DataW.trod_int Try.underlying3 t1
  obtain ⟨b, e2, rfl, w2⟩ := DataW.trod_int Try.underlying3 t2
  obtain ⟨r, e3, rfl, w3⟩ := DataW.trod_string Try.underlying9 t3
  cases e0; cases e1; cases e2; cases e3
  cases hx
  refine ⟨⟨k, s, b, r⟩, rfl, rfl, w1, fun W' sp => ⟨2, ?_⟩⟩
  have := trod_struct_mk (enc := enc) (P := Try.prog) (w := W') (base := 0) (spare := sp) (held := true) (n := 1) (cs := [.int .i64 k, .int .i64 s, .int .i64 b, .string r]) (xs := [(.lit (.int .i64 k), []), (.lit (.int .i64 s), []), (.lit (.int .i64 b), []), (.lit (.string r.data.toList), [])]) Try.underlying68 hC.symm
    (by simp [hI, hS, DataW.trod, Try.underlying3, Try.underlying9, w0, w1, w2, w3])
  show DataW.trod enc Try.prog W' 0 sp true 2 68 [.int .i64 k, .int .i64 s, .int .i64 b, .string r] = some (_, [])
  simpa using this
set_option maxRecDepth 100000 in
set_option maxHeartbeats 1000000 in
theorem others_walk (w : World) (a0 : Int) (A1 : Option Addr) (c1 : Nat) (l1 : List Deed) (S1 : Lk w A1 l1) (z1 : ∀ x ∈ l1, x.wf) (a2 : Deed) (w2 : a2.wf) (a3 : Int) (w3 : wfI a3) :
    Calls Try.prog 9 #[.int .i64 a0, .slice A1 l1.length c1, .agg #[.int .i64 a2.k, .int .i64 a2.s, .int .i64 a2.b, .string a2.r], .int .i64 a3] w fun e w' => e = .returned (.bool true) ∧ Below w.heap.size w w' := by
  have HS := Lib.hid S1
  have HZ := Lib.hid z1
  have HW2 := Lib.hid w2
  have HW := Lib.hid w3
  clear S1 z1 w2 w3
  go_enter Try.func9, Try.ntmps9
  go_wp2_with fail
  have HB0 := Lib.hid ((Below.refl w.heap.size w).alloc (Nat.le_refl _) (.cells #[.int .i64 a2.k, .int .i64 a2.s, .int .i64 a2.b, .string a2.r] 68))
  have BK := Lib.hid (Blk.new w 68 #[.int .i64 a2.k, .int .i64 a2.s, .int .i64 a2.b, .string a2.r])
  generalize w.alloc (.cells #[.int .i64 a2.k, .int .i64 a2.s, .int .i64 a2.b, .string a2.r] 68) = w0 at *
  go_wp2_with fail
  refine (fworks_any _).mono ?_
  rintro e w1 ⟨rfl, hb1⟩
  have HB1 := Lib.hid (HB0.out.trans ((far_of_belowF hb1).below HB0.out.size (fun _ e => e.elim)))
  have BK1 := Lib.hid (BK.out.far (far_of_belowF hb1) (fun e => e))
  clear hb1 HB0 BK
  go_wp2_with fail
  refine (fl_new (w0 := w) a0 HB1.out).mono ?_
  rintro e w2 ⟨rfl, hM, hb2⟩
  have H2 := Lib.hid hM
  have BK2 : Hid (FBlk (w1.heap.size + 1) w1.heap.size [] w.heap.size 68 #[.int .i64 a2.k, .int .i64 a2.s, .int .i64 a2.b, .string a2.r] w2) := Lib.hid ⟨BK1.out.far (far_of_belowF hb2) (fun e => e), Ft.kind hM.fd.ft (BK1.out.far (far_of_belowF hb2) (fun e => e)) (by decide) (by decide) (by decide)⟩
  clear hM hb2 BK1
  generalize w1.heap.size = B at *
  generalize B + 1 = m at *
  go_wp2_with fail
  refine (ffew_any A1 c1 l1 w2 (HS.out.below H2.out.below)).mono ?_
  rintro e w3 ⟨rfl, rfl⟩
  rcases hf : ffewF l1 with _ | _
  · go_wp2_with fail
    go_ret
    exact ⟨rfl, H2.out.below⟩
  · obtain ⟨hl60, hks⟩ := ffewF_true hf
    clear hf hks
    have c0 : w2.cell? ⟨w.heap.size, 0, none⟩ = some (.int .i64 a2.k) := by rw [BK2.out.1.cell]; rfl
    have c1' : w2.cell? ⟨w.heap.size, 1, none⟩ = some (.int .i64 a2.s) := by rw [BK2.out.1.cell]; rfl
    have c2 : w2.cell? ⟨w.heap.size, 2, none⟩ = some (.int .i64 a2.b) := by rw [BK2.out.1.cell]; rfl
    have c3 : w2.cell? ⟨w.heap.size, 3, none⟩ = some (.string a2.r) := by rw [BK2.out.1.cell]; rfl
    go_wp2_with fail
    have H3 := Lib.hid (H2.out.alloc (.cells #[.int .i64 a2.k, .int .i64 a2.s, .int .i64 a2.b, .string a2.r] 68))
    have BK3 := Lib.hid (BK2.out.alloc (.cells #[.int .i64 a2.k, .int .i64 a2.s, .int .i64 a2.b, .string a2.r] 68))
    have NB := Lib.hid (H2.out.nblk #[.int .i64 a2.k, .int .i64 a2.s, .int .i64 a2.b, .string a2.r] 68)
    generalize w2.heap.size = g3 at *
    generalize w2.alloc (.cells #[.int .i64 a2.k, .int .i64 a2.s, .int .i64 a2.b, .string a2.r] 68) = w3 at *
    have LK1 : Hid (Lk w3 (some ⟨g3, 0, none⟩) [a2]) := Lib.hid (.inr ⟨g3, 0, rfl, NB.out.1.lt, fun j a ha => by
      have hj : j = 0 := by
        have := (List.getElem?_eq_some_iff.1 ha).1
        simpa using this
      subst hj
      cases ha
      exact ⟨by rw [NB.out.1.cell]; rfl, by rw [NB.out.1.cell]; rfl, by rw [NB.out.1.cell]; rfl, by rw [NB.out.1.cell]; rfl⟩⟩)
    refine (ffew_any (some ⟨g3, 0, none⟩) 1 [a2] w3 LK1.out).mono ?_
    rintro e w4 ⟨rfl, rfl⟩
    clear H2 BK2 NB LK1 c0 c1' c2 c3
    rcases hf : ffewF [a2] with _ | _
    · go_wp2_with fail
      go_ret
      exact ⟨rfl, H3.out.below⟩
    · clear hf
      have c0 : w3.cell? ⟨w.heap.size, 0, none⟩ = some (.int .i64 a2.k) := by rw [BK3.out.1.cell]; rfl
      have c1' : w3.cell? ⟨w.heap.size, 1, none⟩ = some (.int .i64 a2.s) := by rw [BK3.out.1.cell]; rfl
      by_cases b1 : a2.s = a3
      · go_wp2_with fail
        go_ret
        exact ⟨rfl, H3.out.below⟩
      · by_cases b2 : a2.k = 2
        · go_wp2_with fail
          go_ret
          exact ⟨rfl, H3.out.below⟩
        · have q1 : (a2.s == a3) = false := by simpa using b1
          have q2 : (a2.k == 2) = false := by simpa using b2
          go_wp2_with fail
          clear q1 q2
          have NE := Lib.hid b1
          have N2 := Lib.hid b2
          clear c0 c1' b1 b2
          go_loopw [12] (fun vi wr => ∃ k : Nat, vi = .int .i64 (k : Int) ∧ k ≤ l1.length ∧ Hid (∃ t rs, Fl w B m B t rs wr ∧ FBlk m B rs w.heap.size 68 #[.int .i64 a2.k, .int .i64 a2.s, .int .i64 a2.b, .string a2.r] wr ∧ t.rows.length ≤ k)) (fun vi _ => l1.length - (intOf vi).toNat)
          case atStart => exact ⟨0, rfl, Nat.zero_le _, Lib.hid ⟨_, _, H3.out, BK3.out, Nat.le_refl _⟩⟩
          case round =>
            rename_i wr
            obtain ⟨k, rfl, hk, HM⟩ := hrel
            obtain ⟨t, rs, hC, hB, hL⟩ := HM.out
            have H := Lib.hid hC
            have BK := Lib.hid hB
            have HL := Lib.hid hL
            clear HM hC hL hB
            by_cases hlt : k < l1.length
            · obtain ⟨a, ha⟩ : ∃ a, l1[k]? = some a := ⟨_, List.getElem?_eq_getElem hlt⟩
              have hwf := Lib.hid (HZ.out a (List.mem_of_getElem? ha))
              obtain ⟨b, o, rfl, hbl, HC⟩ := (HS.out.below H.out.below).at_ k a ha
              obtain ⟨d0, d1, d2, d3⟩ := HC
              have j1 : (k : Int) < (l1.length : Int) := by omega
              have wk : IntKind.i64.wrap ((k : Int) + 1) = (k : Int) + 1 := IntWalk.i64_in _ (by omega)
              clear ha
              go_wp2_with fail
              refine (fl_do H.out a hwf.out (by have := HL.out; omega)).mono ?_
              rintro e w4 ⟨vl, vc, rfl, rs4, h4, hk4, _⟩
              have H4 := Lib.hid h4
              have BK4 := Lib.hid (hk4.blk BK.out)
              clear h4 hk4
              go_wp2_with fail
              exact ⟨⟨k + 1, by go_num, by omega, Lib.hid ⟨_, _, H4.out, BK4.out, by have := does_le H.out.fd.ok a; have := HL.out; omega⟩⟩, by simp [intOf]; omega⟩
            · obtain rfl : k = l1.length := by omega
              have OT := Lib.hid (does_other H.out.fd.ok a2 a3 N2.out NE.out)
              have WA := Lib.hid (waiting_any H.out.fd a3 HW.out)
              have FO := Lib.hid (follows_any H.out.fd a3 HW.out)
              have c0 : wr.cell? ⟨w.heap.size, 0, none⟩ = some (.int .i64 a2.k) := by rw [BK.out.1.cell]; rfl
              have c1' : wr.cell? ⟨w.heap.size, 1, none⟩ = some (.int .i64 a2.s) := by rw [BK.out.1.cell]; rfl
              have c2 : wr.cell? ⟨w.heap.size, 2, none⟩ = some (.int .i64 a2.b) := by rw [BK.out.1.cell]; rfl
              have c3 : wr.cell? ⟨w.heap.size, 3, none⟩ = some (.string a2.r) := by rw [BK.out.1.cell]; rfl
              have e1 : (t.does a2).1.wait a3 = t.wait a3 := by unfold Tbl.wait; rw [OT.out]
              have e2 : (t.does a2).1.fol a3 = t.fol a3 := by unfold Tbl.fol; rw [OT.out]
              have E1 := Lib.hid e1
              have E2 := Lib.hid e2
              clear e1 e2 OT
              go_wp2_with fail
              refine FO.out.mono ?_
              rintro e w' ⟨rfl, rfl⟩
              go_wp2_with fail
              refine WA.out.mono ?_
              rintro e w' ⟨rfl, rfl⟩
              go_wp2_with fail
              refine (fl_do H.out a2 HW2.out (by have := HL.out; omega)).mono ?_
              rintro e w5 ⟨vl, vc, rfl, rs5, h5, _⟩
              have H5 := Lib.hid h5
              clear h5
              have WA2 := Lib.hid (waiting_any H5.out.fd a3 HW.out)
              have FO2 := Lib.hid (follows_any H5.out.fd a3 HW.out)
              rw [E1.out] at WA2
              rw [E2.out] at FO2
              clear E1 E2 WA FO
              generalize t.wait a3 = wn at *
              generalize t.fol a3 = fb at *
              go_wp2_with fail
              refine FO2.out.mono ?_
              rintro e w' ⟨rfl, rfl⟩
              go_wp2_with fail
              refine WA2.out.mono ?_
              rintro e w' ⟨rfl, rfl⟩
              go_wp2_with fail
              go_ret
              exact ⟨rfl, H5.out.below⟩
end Go.Proofs.Ytjladlniilacjaa
