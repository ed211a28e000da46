/-
  The law's package for feed: the document's example.
-/
import Derived.Test.YtjladlniilacjaaFeeLaw
namespace Go.Proofs.Fee
set_option linter.unusedVariables false
def wN1 : Ntc := ⟨0, 0, 1, ⟨#[114]⟩, []⟩
def wN2 : Ntc := ⟨0, 0, 2, ⟨#[]⟩, []⟩
def wN3 : Ntc := ⟨0, 0, 3, ⟨#[]⟩, []⟩
def wT0 : Tbl := news 1
def wT1 : Tbl := (wT0.sub 3).1
def wT2 : Tbl := (wT1.sub 3).1
def wT3 : Tbl := (wT2.push wN1).1
def wT4 : Tbl := (wT3.push wN2).1
def wT5 : Tbl := (wT4.push wN3).1
def wT6 : Tbl := (wT5.pop 3).1
def wT7 : Tbl := (wT6.pop 3).1
def wT8 : Tbl := (wT7.pop 3).1
def wT9 : Tbl := (wT8.sub 3).1
def wT10 : Tbl := (wT9.unsub 3).1
def wT11 : Tbl := (wT10.unsub 3).1
def wT12 : Tbl := (wT11.forget 3).1
theorem wR0 : (wT0.sub 3).2 = true := by decide +kernel
theorem wR1 : (wT1.sub 3).2 = false := by decide +kernel
theorem wR2 : (wT2.push wN1).2 = [] := by decide +kernel
theorem wR3 : (wT3.push wN2).2 = [3] := by decide +kernel
theorem wR4 : (wT4.push wN3).2 = [] := by decide +kernel
theorem wR5 : (wT5.pop 3).2 = (⟨3, 0, 1, ⟨#[114]⟩, []⟩, true) := by decide +kernel
theorem wR6 : (wT6.pop 3).2 = (⟨3, 11, 2, ⟨#[]⟩, []⟩, true) := by decide +kernel
theorem wR7 : (wT7.pop 3).2 = (⟨0, 0, 0, ⟨#[]⟩, []⟩, false) := by decide +kernel
theorem wR8 : (wT8.sub 3).2 = true := by decide +kernel
theorem wR9 : wT9.fol 3 = true := by decide +kernel
theorem wR10 : (wT9.unsub 3).2 = true := by decide +kernel
theorem wR11 : (wT10.unsub 3).2 = false := by decide +kernel
theorem wR12 : wT11.wait 3 = 0 := by decide +kernel
theorem wR13 : (wT11.forget 3).2 = 0 := by decide +kernel
theorem wR14 : wT12.keys = [] := by decide +kernel
theorem wL : wT0.rows.length ≤ 1000 ∧ wT1.rows.length ≤ 1000 ∧ wT2.rows.length ≤ 1000 ∧ wT3.rows.length ≤ 1000 ∧ wT4.rows.length ≤ 1000 ∧ wT8.rows.length ≤ 1000 ∧ wT12.rows.length ≤ 1000 := by decide +kernel
end Go.Proofs.Fee
namespace Go.Proofs.Ytjladlniilacjaa
open Go.RowKit Go.Proofs.Fee
set_option linter.unusedVariables false
set_option linter.unusedSimpArgs false
set_option maxRecDepth 100000 in
set_option maxHeartbeats 1000000 in
theorem fworks_any (w : World) :
    Calls Try.prog 25 #[] w fun e w' => e = .returned (.bool true) ∧ Below w.heap.size w w' := by
  have WF : wfI 3 := by decide
  have NEW := Lib.hid (fl_new (w0 := w) (w := w) 1 (Below.refl _ _))
  obtain ⟨B, hB⟩ : ∃ B, B = w.heap.size := ⟨_, rfl⟩
  rw [← hB] at NEW
  have HB := Lib.hid hB
  clear hB
  go_enter Try.func25, Try.ntmps25
  go_wp2_with fail
  refine NEW.out.mono ?_
  rintro e w1 ⟨rfl, h, _⟩
  have H1 : Hid (Fl w B (B + 1) B wT0 _ w1) := Lib.hid h
  clear h NEW
  generalize B + 1 = m at *
  go_wp2_with fail
  refine (fl_sub H1.out 3 WF wL.1).mono ?_
  rintro e w2 ⟨rfl, rs2, h, hk⟩
  rw [wR0]
  have H2 : Hid (Fl w B m B wT1 rs2 w2) := Lib.hid h
  clear h hk H1 
  go_wp2_with fail
  refine (fl_sub H2.out 3 WF wL.2.1).mono ?_
  rintro e w3 ⟨rfl, rs3, h, hk⟩
  rw [wR1]
  have H3 : Hid (Fl w B m B wT2 rs3 w3) := Lib.hid h
  clear h hk H2 
  go_wp2_with fail
  refine (fl_push H3.out wN1 none 0 0 (.inl ⟨rfl, rfl⟩) (by decide) wL.2.2.1).mono ?_
  rintro e w4 ⟨v, rfl, rs4, h, hk, hr⟩
  rw [wR2] at hr
  have H4 : Hid (Fl w B m B wT3 rs4 w4) := Lib.hid h
  obtain ⟨A4, c4, rfl⟩ := own_shape hr.1
  clear h hk hr H3 
  dsimp only [List.length_cons, List.length_nil]
  go_wp2_with fail
  refine (fl_push H4.out wN2 none 0 0 (.inl ⟨rfl, rfl⟩) (by decide) wL.2.2.2.1).mono ?_
  rintro e w5 ⟨v, rfl, rs5, h, hk, hr⟩
  rw [wR3] at hr
  have H5 : Hid (Fl w B m B wT4 rs5 w5) := Lib.hid h
  obtain ⟨A5, c5, rfl⟩ := own_shape hr.1
  have R5 := Lib.hid hr
  clear h hk hr H4 
  dsimp only [List.length_cons, List.length_nil]
  go_wp2_with fail
  refine (fl_push H5.out wN3 none 0 0 (.inl ⟨rfl, rfl⟩) (by decide) wL.2.2.2.2.1).mono ?_
  rintro e w6 ⟨v, rfl, rs6, h, hk, hr⟩
  rw [wR4] at hr
  have H6 : Hid (Fl w B m B wT5 rs6 w6) := Lib.hid h
  obtain ⟨A6, c6, rfl⟩ := own_shape hr.1
  have R6 := Lib.hid (hk.row R5.out)
  clear h hk hr H5 R5
  dsimp only [List.length_cons, List.length_nil]
  go_wp2_with fail
  refine (fl_pop H6.out 3 WF).mono ?_
  rintro e w7 ⟨A7, k7, c7, rfl, _, rs7, h, hk⟩
  rw [wR5]
  have H7 : Hid (Fl w B m B wT6 rs7 w7) := Lib.hid h
  have R7 := Lib.hid (hk.row R6.out)
  clear h hk H6 R6
  dsimp only
  go_wp2_with fail
  have H8 := Lib.hid (H7.out.alloc (.cells #[.int .i64 3, .int .i64 0, .int .i64 1, .string ⟨#[114]⟩, .slice A7 k7 c7] 63))
  have R8 := Lib.hid (R7.out.alloc (.cells #[.int .i64 3, .int .i64 0, .int .i64 1, .string ⟨#[114]⟩, .slice A7 k7 c7] 63))
  have X8 := Lib.hid (H7.out.nblk #[.int .i64 3, .int .i64 0, .int .i64 1, .string ⟨#[114]⟩, .slice A7 k7 c7] 63)
  generalize w7.heap.size = g8 at *
  generalize w7.alloc (.cells #[.int .i64 3, .int .i64 0, .int .i64 1, .string ⟨#[114]⟩, .slice A7 k7 c7] 63) = w8 at *
  clear  H7 R7
  go_wp2_with fail
  refine (fl_pop H8.out 3 WF).mono ?_
  rintro e w9 ⟨A9, k9, c9, rfl, _, rs9, h, hk⟩
  rw [wR6]
  have H9 : Hid (Fl w B m B wT7 rs9 w9) := Lib.hid h
  have R9 := Lib.hid (hk.row R8.out)
  have X9 := Lib.hid (hk.blk X8.out)
  clear h hk H8 R8 X8
  dsimp only
  go_wp2_with fail
  have H10 := Lib.hid (H9.out.alloc (.cells #[.int .i64 3, .int .i64 11, .int .i64 2, .string ⟨#[]⟩, .slice A9 k9 c9] 63))
  have R10 := Lib.hid (R9.out.alloc (.cells #[.int .i64 3, .int .i64 11, .int .i64 2, .string ⟨#[]⟩, .slice A9 k9 c9] 63))
  have X10 := Lib.hid (X9.out.alloc (.cells #[.int .i64 3, .int .i64 11, .int .i64 2, .string ⟨#[]⟩, .slice A9 k9 c9] 63))
  have Y10 := Lib.hid (H9.out.nblk #[.int .i64 3, .int .i64 11, .int .i64 2, .string ⟨#[]⟩, .slice A9 k9 c9] 63)
  generalize w9.heap.size = g10 at *
  generalize w9.alloc (.cells #[.int .i64 3, .int .i64 11, .int .i64 2, .string ⟨#[]⟩, .slice A9 k9 c9] 63) = w10 at *
  clear  H9 R9 X9
  go_wp2_with fail
  refine (fl_pop H10.out 3 WF).mono ?_
  rintro e w11 ⟨A11, k11, c11, rfl, _, rs11, h, hk⟩
  rw [wR7]
  have H11 : Hid (Fl w B m B wT8 rs11 w11) := Lib.hid h
  have R11 := Lib.hid (hk.row R10.out)
  have X11 := Lib.hid (hk.blk X10.out)
  have Y11 := Lib.hid (hk.blk Y10.out)
  clear h hk H10 R10 X10 Y10
  dsimp only
  go_wp2_with fail
  have H12 := Lib.hid (H11.out.alloc (.cells #[.int .i64 0, .int .i64 0, .int .i64 0, .string ⟨#[]⟩, .slice A11 k11 c11] 63))
  have R12 := Lib.hid (R11.out.alloc (.cells #[.int .i64 0, .int .i64 0, .int .i64 0, .string ⟨#[]⟩, .slice A11 k11 c11] 63))
  have X12 := Lib.hid (X11.out.alloc (.cells #[.int .i64 0, .int .i64 0, .int .i64 0, .string ⟨#[]⟩, .slice A11 k11 c11] 63))
  have Y12 := Lib.hid (Y11.out.alloc (.cells #[.int .i64 0, .int .i64 0, .int .i64 0, .string ⟨#[]⟩, .slice A11 k11 c11] 63))
  generalize w11.heap.size = g12 at *
  generalize w11.alloc (.cells #[.int .i64 0, .int .i64 0, .int .i64 0, .string ⟨#[]⟩, .slice A11 k11 c11] 63) = w12 at *
  clear  H11 R11 X11 Y11
  go_wp2_with fail
  refine (fl_sub H12.out 3 WF wL.2.2.2.2.2.1).mono ?_
  rintro e w13 ⟨rfl, rs13, h, hk⟩
  rw [wR8]
  have H13 : Hid (Fl w B m B wT9 rs13 w13) := Lib.hid h
  have R13 := Lib.hid (hk.row R12.out)
  have X13 := Lib.hid (hk.blk X12.out)
  have Y13 := Lib.hid (hk.blk Y12.out)
  clear h hk H12 R12 X12 Y12
  obtain ⟨b15, hb15, _, hc15⟩ := ints_at (k := 0) R13.out.1 (by decide)
  have q1 := hc15 0 3 rfl
  subst hb15
  have p1 : w13.cell? ⟨g8, 2, none⟩ = some (.int .i64 1) := by rw [X13.out.1.cell]; rfl
  have p2 : w13.cell? ⟨g8, 3, none⟩ = some (.string ⟨#[114]⟩) := by rw [X13.out.1.cell]; rfl
  have p3 : w13.cell? ⟨g8, 0, none⟩ = some (.int .i64 3) := by rw [X13.out.1.cell]; rfl
  have p4 : w13.cell? ⟨g10, 1, none⟩ = some (.int .i64 11) := by rw [Y13.out.1.cell]; rfl
  have p5 : w13.cell? ⟨g10, 2, none⟩ = some (.int .i64 2) := by rw [Y13.out.1.cell]; rfl
  clear hc15
  have FO := Lib.hid (follows_any H13.out.fd 3 WF)
  rw [wR9] at FO
  have UN := Lib.hid (fl_unsub H13.out 3 WF)
  rw [wR10] at UN
  clear R13 X13 Y13
  go_wp2_with fail
  refine FO.out.mono ?_
  rintro e w' ⟨rfl, rfl⟩
  go_wp2_with fail
  refine UN.out.mono ?_
  rintro e w20 ⟨rfl, rs20, h, hk⟩
  have H20 : Hid (Fl w B m B wT10 rs20 w20) := Lib.hid h
  clear h hk FO UN H13
  go_wp2_with fail
  refine (fl_unsub H20.out 3 WF).mono ?_
  rintro e w21 ⟨rfl, rs21, h, hk⟩
  rw [wR11]
  have H21 : Hid (Fl w B m B wT11 rs21 w21) := Lib.hid h
  clear h hk H20
  go_wp2_with fail
  have WA := Lib.hid (waiting_any H21.out.fd 3 WF)
  rw [wR12] at WA
  refine WA.out.mono ?_
  rintro e w' ⟨rfl, rfl⟩
  go_wp2_with fail
  refine (fl_forget H21.out 3 WF).mono ?_
  rintro e w22 ⟨rfl, rs22, h, hk⟩
  rw [wR13]
  have H22 : Hid (Fl w B m B wT12 rs22 w22) := Lib.hid h
  clear h hk H21 WA
  go_wp2_with fail
  refine (fl_sessions H22.out wL.2.2.2.2.2.2).mono ?_
  rintro e w23 ⟨A23, c23, rfl, h, _, _⟩
  rw [wR14]
  have H23 := Lib.hid h
  clear h H22
  dsimp only [List.length_nil]
  go_wp2_with fail
  go_ret
  exact ⟨rfl, H23.out.below⟩
end Go.Proofs.Ytjladlniilacjaa
