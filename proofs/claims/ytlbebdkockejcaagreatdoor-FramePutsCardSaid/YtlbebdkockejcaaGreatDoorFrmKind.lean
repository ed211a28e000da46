/-
  Package frame: GetAsk, GetReply, GetNotice, Kind (written by makers/frmkind.py).
-/
import Derived.Test.YtlbebdkockejcaaGreatDoorFrmGetA
import Derived.Test.YtlbebdkockejcaaGreatDoorFrmGetR
import Derived.Test.YtlbebdkockejcaaGreatDoorFrmGetN
namespace Go.Proofs.YtlbebdkockejcaaGreatDoor
open Go.RowKit Go.Proofs.Frm Go.Proofs.Mdl
set_option linter.unusedVariables false
set_option linter.unusedSimpArgs false
set_option maxRecDepth 100000 in
set_option maxHeartbeats 2000000 in
/-- GetAsk. -/
theorem getA_any (s : ByteArray) (w : World) (hs : s.size ≤ 999999) (hl : Laid2 w) :
    Calls Tryz.prog 19 #[.string s] w fun e w' => e = .returned (.tuple #[.agg (cellA ((getA s).getD zeroA)).toArray, .int .i64 (if (getA s).isSome then 0 else 2)]) ∧ Below w.heap.size w w' := by
  obtain ⟨w0, g, hw, e_g, hb0, bg, hz⟩ := box_new w 23 #[.int .i64 0, .int .i64 0, .int .i64 0, .int .i64 0, .string ⟨#[]⟩, .string ⟨#[]⟩, .int .i64 0]
  have RD := Lib.hid (readA_any s w0 hs (hl.on hb0 (Nat.le_refl _)))
  obtain ⟨b, hb⟩ : ∃ b, b = (getA s).isSome := ⟨_, rfl⟩
  obtain ⟨x, hx⟩ : ∃ x, x = (getA s).getD zeroA := ⟨_, rfl⟩
  rw [← hb, ← hx] at RD
  rw [← hb, ← hx]
  clear hb hx
  obtain ⟨y1, y2, y3, y4, y5, y6, y7⟩ := x
  unfold cellA at *
  simp only at RD ⊢
  have GW : Hid (w.heap.size ≤ g) := Lib.hid (by omega)
  have BG := Lib.hid bg
  have B0 := Lib.hid hb0
  clear hl hs bg hb0 hz
  obtain ⟨er, her⟩ : ∃ er : Int, er = (if b = true then 0 else 2) := ⟨_, rfl⟩
  rw [← her] at RD ⊢
  clear her
  go_enter Tryz.func19, Tryz.ntmps19
  go_upto_region 1 with (fail)
  rw [← hw, ← e_g]
  clear hw e_g
  go_wp2_with (go_at_call 45; refine RD.out.mono ?_; rintro e w1 ⟨rfl, hb⟩; have BG1 := Lib.hid (BG.out.below hb); have B1 := Lib.hid (B0.out.trans (hb.mono B0.out.size)); have k0 := BG1.out.cell 0; have f0 := BG1.out.frozen 0; have k1 := BG1.out.cell 1; have f1 := BG1.out.frozen 1; have k2 := BG1.out.cell 2; have f2 := BG1.out.frozen 2; have k3 := BG1.out.cell 3; have f3 := BG1.out.frozen 3; have k4 := BG1.out.cell 4; have f4 := BG1.out.frozen 4; have k5 := BG1.out.cell 5; have f5 := BG1.out.frozen 5; have k6 := BG1.out.cell 6; have f6 := BG1.out.frozen 6; simp only [List.getElem?_toArray, List.getElem?_cons_succ, List.getElem?_cons_zero] at k0 k1 k2 k3 k4 k5 k6; clear hb)
  have h5 : Blk (((((((w1.setCell ⟨g, 0, none⟩ (.int .i64 y1)).setCell ⟨g, 1, none⟩ (.int .i64 y2)).setCell ⟨g, 2, none⟩ (.int .i64 y3)).setCell ⟨g, 3, none⟩ (.int .i64 y4)).setCell ⟨g, 4, none⟩ (.string y5)).setCell ⟨g, 5, none⟩ (.string y6)).setCell ⟨g, 6, none⟩ (.int .i64 y7)) g 23 [(.int .i64 y1 : Value), (.int .i64 y2 : Value), (.int .i64 y3 : Value), (.int .i64 y4 : Value), (.string y5 : Value), (.string y6 : Value), (.int .i64 y7 : Value)].toArray := (((((((BG1.out).set 0 _).set 1 _).set 2 _).set 3 _).set 4 _).set 5 _).set 6 _
  have f5 : Far (fun i => i = g) w1 (((((((w1.setCell ⟨g, 0, none⟩ (.int .i64 y1)).setCell ⟨g, 1, none⟩ (.int .i64 y2)).setCell ⟨g, 2, none⟩ (.int .i64 y3)).setCell ⟨g, 3, none⟩ (.int .i64 y4)).setCell ⟨g, 4, none⟩ (.string y5)).setCell ⟨g, 5, none⟩ (.string y6)).setCell ⟨g, 6, none⟩ (.int .i64 y7)) := ((((((set_far _ _ _ _).trans (set_far _ _ _ _) (fun _ _ e => e)).trans (set_far _ _ _ _) (fun _ _ e => e)).trans (set_far _ _ _ _) (fun _ _ e => e)).trans (set_far _ _ _ _) (fun _ _ e => e)).trans (set_far _ _ _ _) (fun _ _ e => e)).trans (set_far _ _ _ _) (fun _ _ e => e)
  refine bodyPost_ret (results_b2 rfl isAggA sizeA _ _ g rfl rfl h5 rfl) rfl ?_
  have BZ := B1.out.trans (f5.below (B := w.heap.size) B1.out.size (fun i e => by rw [e]; exact GW.out))
  exact ⟨rfl, BZ⟩
set_option maxRecDepth 100000 in
set_option maxHeartbeats 2000000 in
/-- GetReply. -/
theorem getR_any (s : ByteArray) (w : World) (hs : s.size ≤ 999999) (hl : Laid2 w) :
    Calls Tryz.prog 21 #[.string s] w fun e w' => ∃ vl, e = .returned (.tuple #[.agg (cellR ((getR s).getD zeroR) vl).toArray, .int .i64 (if (getR s).isSome then 0 else 2)]) ∧ w'.ownsRow w.heap.size 52 2 vl ((getR s).getD zeroR).entries.length (flatE ((getR s).getD zeroR).entries) ∧ Below w.heap.size w w' := by
  obtain ⟨w0, g, hw, e_g, hb0, bg, hz⟩ := box_new w 27 #[.int .i64 0, .int .i64 0, .int .i64 0, .int .i64 0, .string ⟨#[]⟩, .slice none 0 0, .string ⟨#[]⟩, .bool false]
  have RD := Lib.hid (readR_any s w0 hs (hl.on hb0 (Nat.le_refl _)))
  obtain ⟨b, hb⟩ : ∃ b, b = (getR s).isSome := ⟨_, rfl⟩
  obtain ⟨x, hx⟩ : ∃ x, x = (getR s).getD zeroR := ⟨_, rfl⟩
  rw [← hb, ← hx] at RD
  rw [← hb, ← hx]
  clear hb hx
  obtain ⟨y1, y2, y3, y4, y5, l, y7, y8⟩ := x
  unfold cellR at *
  simp only at RD ⊢
  have GW : Hid (w.heap.size ≤ g) := Lib.hid (by omega)
  have BG := Lib.hid bg
  have B0 := Lib.hid hb0
  clear hl hs bg hb0 hz
  obtain ⟨er, her⟩ : ∃ er : Int, er = (if b = true then 0 else 2) := ⟨_, rfl⟩
  rw [← her] at RD ⊢
  clear her
  go_enter Tryz.func21, Tryz.ntmps21
  go_upto_region 1 with (fail)
  rw [← hw, ← e_g]
  clear hw e_g
  go_wp2_with (go_at_call 50; refine RD.out.mono ?_; rintro e w1 ⟨vl, rfl, hown, hb⟩; obtain ⟨A, c, rfl⟩ := own_shape hown; have O1 := Lib.hid hown; clear hown; have BG1 := Lib.hid (BG.out.below hb); have B1 := Lib.hid (B0.out.trans (hb.mono B0.out.size)); have k0 := BG1.out.cell 0; have f0 := BG1.out.frozen 0; have k1 := BG1.out.cell 1; have f1 := BG1.out.frozen 1; have k2 := BG1.out.cell 2; have f2 := BG1.out.frozen 2; have k3 := BG1.out.cell 3; have f3 := BG1.out.frozen 3; have k4 := BG1.out.cell 4; have f4 := BG1.out.frozen 4; have k5 := BG1.out.cell 5; have f5 := BG1.out.frozen 5; have k6 := BG1.out.cell 6; have f6 := BG1.out.frozen 6; have k7 := BG1.out.cell 7; have f7 := BG1.out.frozen 7; simp only [List.getElem?_toArray, List.getElem?_cons_succ, List.getElem?_cons_zero] at k0 k1 k2 k3 k4 k5 k6 k7; clear hb)
  have h5 : Blk ((((((((w1.setCell ⟨g, 0, none⟩ (.int .i64 y1)).setCell ⟨g, 1, none⟩ (.int .i64 y2)).setCell ⟨g, 2, none⟩ (.int .i64 y3)).setCell ⟨g, 3, none⟩ (.int .i64 y4)).setCell ⟨g, 4, none⟩ (.string y5)).setCell ⟨g, 5, none⟩ (.slice A l.length c)).setCell ⟨g, 6, none⟩ (.string y7)).setCell ⟨g, 7, none⟩ (.bool y8)) g 27 [(.int .i64 y1 : Value), (.int .i64 y2 : Value), (.int .i64 y3 : Value), (.int .i64 y4 : Value), (.string y5 : Value), (.slice A l.length c : Value), (.string y7 : Value), (.bool y8 : Value)].toArray := ((((((((BG1.out).set 0 _).set 1 _).set 2 _).set 3 _).set 4 _).set 5 _).set 6 _).set 7 _
  have f5 : Far (fun i => i = g) w1 ((((((((w1.setCell ⟨g, 0, none⟩ (.int .i64 y1)).setCell ⟨g, 1, none⟩ (.int .i64 y2)).setCell ⟨g, 2, none⟩ (.int .i64 y3)).setCell ⟨g, 3, none⟩ (.int .i64 y4)).setCell ⟨g, 4, none⟩ (.string y5)).setCell ⟨g, 5, none⟩ (.slice A l.length c)).setCell ⟨g, 6, none⟩ (.string y7)).setCell ⟨g, 7, none⟩ (.bool y8)) := (((((((set_far _ _ _ _).trans (set_far _ _ _ _) (fun _ _ e => e)).trans (set_far _ _ _ _) (fun _ _ e => e)).trans (set_far _ _ _ _) (fun _ _ e => e)).trans (set_far _ _ _ _) (fun _ _ e => e)).trans (set_far _ _ _ _) (fun _ _ e => e)).trans (set_far _ _ _ _) (fun _ _ e => e)).trans (set_far _ _ _ _) (fun _ _ e => e)
  refine bodyPost_ret (results_b2 rfl isAggR sizeR _ _ g rfl rfl h5 rfl) rfl ?_
  have BZ := B1.out.trans (f5.below (B := w.heap.size) B1.out.size (fun i e => by rw [e]; exact GW.out))
  exact ⟨_, rfl, row_mono (own_far O1.out f5 (fun i hi e => by have h1 := (O1.out.lt i hi).1; have h2 := BG.out.lt; omega)) B0.out.size, BZ⟩
set_option maxRecDepth 100000 in
set_option maxHeartbeats 2000000 in
/-- GetNotice. -/
theorem getN_any (s : ByteArray) (w : World) (hs : s.size ≤ 999999) (hl : Laid2 w) :
    Calls Tryz.prog 23 #[.string s] w fun e w' => ∃ vl, e = .returned (.tuple #[.agg (cellN ((getN s).getD zeroN) vl).toArray, .int .i64 (if (getN s).isSome then 0 else 2)]) ∧ w'.ownsRow w.heap.size 54 3 vl ((getN s).getD zeroN).changes.length (flatC ((getN s).getD zeroN).changes) ∧ Below w.heap.size w w' := by
  obtain ⟨w0, g, hw, e_g, hb0, bg, hz⟩ := box_new w 30 #[.int .i64 0, .int .i64 0, .int .i64 0, .string ⟨#[]⟩, .slice none 0 0]
  have RD := Lib.hid (readN_any s w0 hs (hl.on hb0 (Nat.le_refl _)))
  obtain ⟨b, hb⟩ : ∃ b, b = (getN s).isSome := ⟨_, rfl⟩
  obtain ⟨x, hx⟩ : ∃ x, x = (getN s).getD zeroN := ⟨_, rfl⟩
  rw [← hb, ← hx] at RD
  rw [← hb, ← hx]
  clear hb hx
  obtain ⟨y1, y2, y3, y4, l⟩ := x
  unfold cellN at *
  simp only at RD ⊢
  have GW : Hid (w.heap.size ≤ g) := Lib.hid (by omega)
  have BG := Lib.hid bg
  have B0 := Lib.hid hb0
  clear hl hs bg hb0 hz
  obtain ⟨er, her⟩ : ∃ er : Int, er = (if b = true then 0 else 2) := ⟨_, rfl⟩
  rw [← her] at RD ⊢
  clear her
  go_enter Tryz.func23, Tryz.ntmps23
  go_upto_region 1 with (fail)
  rw [← hw, ← e_g]
  clear hw e_g
  go_wp2_with (go_at_call 53; refine RD.out.mono ?_; rintro e w1 ⟨vl, rfl, hown, hb⟩; obtain ⟨A, c, rfl⟩ := own_shape hown; have O1 := Lib.hid hown; clear hown; have BG1 := Lib.hid (BG.out.below hb); have B1 := Lib.hid (B0.out.trans (hb.mono B0.out.size)); have k0 := BG1.out.cell 0; have f0 := BG1.out.frozen 0; have k1 := BG1.out.cell 1; have f1 := BG1.out.frozen 1; have k2 := BG1.out.cell 2; have f2 := BG1.out.frozen 2; have k3 := BG1.out.cell 3; have f3 := BG1.out.frozen 3; have k4 := BG1.out.cell 4; have f4 := BG1.out.frozen 4; simp only [List.getElem?_toArray, List.getElem?_cons_succ, List.getElem?_cons_zero] at k0 k1 k2 k3 k4; clear hb)
  have h5 : Blk (((((w1.setCell ⟨g, 0, none⟩ (.int .i64 y1)).setCell ⟨g, 1, none⟩ (.int .i64 y2)).setCell ⟨g, 2, none⟩ (.int .i64 y3)).setCell ⟨g, 3, none⟩ (.string y4)).setCell ⟨g, 4, none⟩ (.slice A l.length c)) g 30 [(.int .i64 y1 : Value), (.int .i64 y2 : Value), (.int .i64 y3 : Value), (.string y4 : Value), (.slice A l.length c : Value)].toArray := (((((BG1.out).set 0 _).set 1 _).set 2 _).set 3 _).set 4 _
  have f5 : Far (fun i => i = g) w1 (((((w1.setCell ⟨g, 0, none⟩ (.int .i64 y1)).setCell ⟨g, 1, none⟩ (.int .i64 y2)).setCell ⟨g, 2, none⟩ (.int .i64 y3)).setCell ⟨g, 3, none⟩ (.string y4)).setCell ⟨g, 4, none⟩ (.slice A l.length c)) := ((((set_far _ _ _ _).trans (set_far _ _ _ _) (fun _ _ e => e)).trans (set_far _ _ _ _) (fun _ _ e => e)).trans (set_far _ _ _ _) (fun _ _ e => e)).trans (set_far _ _ _ _) (fun _ _ e => e)
  refine bodyPost_ret (results_b2 rfl isAggN sizeN _ _ g rfl rfl h5 rfl) rfl ?_
  have BZ := B1.out.trans (f5.below (B := w.heap.size) B1.out.size (fun i e => by rw [e]; exact GW.out))
  exact ⟨_, rfl, row_mono (own_far O1.out f5 (fun i hi e => by have h1 := (O1.out.lt i hi).1; have h2 := BG.out.lt; omega)) B0.out.size, BZ⟩
theorem getA_ok {s : ByteArray} {w : World} (hs : s.size ≤ 999999) (hl : Laid2 w) {x : Frm.Ask} (h : getA s = some x) :
    Calls Tryz.prog 19 #[.string s] w fun e w' => e = .returned (.tuple #[.agg (cellA x).toArray, .int .i64 0]) ∧ Below w.heap.size w w' := by
  have := getA_any s w hs hl
  rw [h] at this
  exact this
theorem getA_no {s : ByteArray} {w : World} (hs : s.size ≤ 999999) (hl : Laid2 w) (h : getA s = none) :
    Calls Tryz.prog 19 #[.string s] w fun e w' => e = .returned (.tuple #[.agg (cellA zeroA).toArray, .int .i64 2]) ∧ Below w.heap.size w w' := by
  have := getA_any s w hs hl
  rw [h] at this
  exact this
theorem getR_ok {s : ByteArray} {w : World} (hs : s.size ≤ 999999) (hl : Laid2 w) {x : Frm.Rep} (h : getR s = some x) :
    Calls Tryz.prog 21 #[.string s] w fun e w' => ∃ vl, e = .returned (.tuple #[.agg (cellR x vl).toArray, .int .i64 0]) ∧ w'.ownsRow w.heap.size 52 2 vl x.entries.length (flatE x.entries) ∧ Below w.heap.size w w' := by
  have := getR_any s w hs hl
  rw [h] at this
  exact this
theorem getR_no {s : ByteArray} {w : World} (hs : s.size ≤ 999999) (hl : Laid2 w) (h : getR s = none) :
    Calls Tryz.prog 21 #[.string s] w fun e w' => ∃ vl, e = .returned (.tuple #[.agg (cellR zeroR vl).toArray, .int .i64 2]) ∧ w'.ownsRow w.heap.size 52 2 vl 0 [] ∧ Below w.heap.size w w' := by
  have := getR_any s w hs hl
  rw [h] at this
  exact this
theorem getN_ok {s : ByteArray} {w : World} (hs : s.size ≤ 999999) (hl : Laid2 w) {x : Frm.Ntc} (h : getN s = some x) :
    Calls Tryz.prog 23 #[.string s] w fun e w' => ∃ vl, e = .returned (.tuple #[.agg (cellN x vl).toArray, .int .i64 0]) ∧ w'.ownsRow w.heap.size 54 3 vl x.changes.length (flatC x.changes) ∧ Below w.heap.size w w' := by
  have := getN_any s w hs hl
  rw [h] at this
  exact this
theorem getN_no {s : ByteArray} {w : World} (hs : s.size ≤ 999999) (hl : Laid2 w) (h : getN s = none) :
    Calls Tryz.prog 23 #[.string s] w fun e w' => ∃ vl, e = .returned (.tuple #[.agg (cellN zeroN vl).toArray, .int .i64 2]) ∧ w'.ownsRow w.heap.size 54 3 vl 0 [] ∧ Below w.heap.size w w' := by
  have := getN_any s w hs hl
  rw [h] at this
  exact this
set_option maxRecDepth 100000 in
set_option maxHeartbeats 2000000 in
theorem kind_a {s : ByteArray} {w : World} (hs : s.size ≤ 999999) (hl : Laid2 w) {xa : Frm.Ask} (hA : getA s = some xa) :
    Calls Tryz.prog 27 #[.string s] w fun e w' => e = .returned (.int .i64 0) ∧ Below w.heap.size w w' := by
  have CA := Lib.hid (fun W (hW : Below w.heap.size w W) => getA_ok (w := W) hs (hl.on hW (Nat.le_refl _)) hA)
  unfold cellA  at *
  clear hs hl hA
  go_enter Tryz.func27, Tryz.ntmps27
  go_wp2_with (first
    | (go_at_call 19; refine (CA.out _ (Below.refl _ _)).mono ?_; rintro e w1 ⟨rfl, hb⟩; have B1 := Lib.hid hb; clear hb))
  go_ret
  exact ⟨rfl, B1.out.alloc B1.out.size _⟩
set_option maxRecDepth 100000 in
set_option maxHeartbeats 2000000 in
theorem kind_r {s : ByteArray} {w : World} (hs : s.size ≤ 999999) (hl : Laid2 w) {xr : Frm.Rep} (hA : getA s = none) (hR : getR s = some xr) :
    Calls Tryz.prog 27 #[.string s] w fun e w' => e = .returned (.int .i64 1) ∧ Below w.heap.size w w' := by
  have CA := Lib.hid (fun W (hW : Below w.heap.size w W) => getA_no (w := W) hs (hl.on hW (Nat.le_refl _)) hA)
  have CR := Lib.hid (fun W (hW : Below w.heap.size w W) => getR_ok (w := W) hs (hl.on hW (Nat.le_refl _)) hR)
  unfold cellA cellR zeroA at *
  clear hs hl hA hR
  go_enter Tryz.func27, Tryz.ntmps27
  go_wp2_with (first
    | (go_at_call 19; refine (CA.out _ (Below.refl _ _)).mono ?_; rintro e w1 ⟨rfl, hb⟩; have B1 := Lib.hid hb; clear hb)
    | (go_at_call 21; refine (CR.out _ (B1.out.alloc B1.out.size _)).mono ?_; rintro e w2 ⟨vl, rfl, hown, hb⟩; obtain ⟨A2, c2, rfl⟩ := own_shape hown; have B2 := Lib.hid ((B1.out.alloc B1.out.size _).trans (hb.mono (B1.out.alloc B1.out.size _).size)); clear hb hown))
  go_ret
  exact ⟨rfl, B2.out.alloc B2.out.size _⟩
set_option maxRecDepth 100000 in
set_option maxHeartbeats 2000000 in
theorem kind_n {s : ByteArray} {w : World} (hs : s.size ≤ 999999) (hl : Laid2 w) {xn : Frm.Ntc} (hA : getA s = none) (hR : getR s = none) (hN : getN s = some xn) :
    Calls Tryz.prog 27 #[.string s] w fun e w' => e = .returned (.int .i64 2) ∧ Below w.heap.size w w' := by
  have CA := Lib.hid (fun W (hW : Below w.heap.size w W) => getA_no (w := W) hs (hl.on hW (Nat.le_refl _)) hA)
  have CR := Lib.hid (fun W (hW : Below w.heap.size w W) => getR_no (w := W) hs (hl.on hW (Nat.le_refl _)) hR)
  have CN := Lib.hid (fun W (hW : Below w.heap.size w W) => getN_ok (w := W) hs (hl.on hW (Nat.le_refl _)) hN)
  unfold cellA cellR cellN zeroA zeroR at *
  clear hs hl hA hR hN
  go_enter Tryz.func27, Tryz.ntmps27
  go_wp2_with (first
    | (go_at_call 19; refine (CA.out _ (Below.refl _ _)).mono ?_; rintro e w1 ⟨rfl, hb⟩; have B1 := Lib.hid hb; clear hb)
    | (go_at_call 21; refine (CR.out _ (B1.out.alloc B1.out.size _)).mono ?_; rintro e w2 ⟨vl, rfl, hown, hb⟩; obtain ⟨A2, c2, rfl⟩ := own_shape hown; have B2 := Lib.hid ((B1.out.alloc B1.out.size _).trans (hb.mono (B1.out.alloc B1.out.size _).size)); clear hb hown)
    | (go_at_call 23; refine (CN.out _ (B2.out.alloc B2.out.size _)).mono ?_; rintro e w3 ⟨vl3, rfl, hown, hb⟩; obtain ⟨A3, c3, rfl⟩ := own_shape hown; have B3 := Lib.hid ((B2.out.alloc B2.out.size _).trans (hb.mono (B2.out.alloc B2.out.size _).size)); clear hb hown))
  go_ret
  exact ⟨rfl, B3.out.alloc B3.out.size _⟩
set_option maxRecDepth 100000 in
set_option maxHeartbeats 2000000 in
theorem kind_o {s : ByteArray} {w : World} (hs : s.size ≤ 999999) (hl : Laid2 w) (hA : getA s = none) (hR : getR s = none) (hN : getN s = none) :
    Calls Tryz.prog 27 #[.string s] w fun e w' => e = .returned (.int .i64 (-1)) ∧ Below w.heap.size w w' := by
  have CA := Lib.hid (fun W (hW : Below w.heap.size w W) => getA_no (w := W) hs (hl.on hW (Nat.le_refl _)) hA)
  have CR := Lib.hid (fun W (hW : Below w.heap.size w W) => getR_no (w := W) hs (hl.on hW (Nat.le_refl _)) hR)
  have CN := Lib.hid (fun W (hW : Below w.heap.size w W) => getN_no (w := W) hs (hl.on hW (Nat.le_refl _)) hN)
  unfold cellA cellR cellN zeroA zeroR zeroN at *
  clear hs hl hA hR hN
  go_enter Tryz.func27, Tryz.ntmps27
  go_wp2_with (first
    | (go_at_call 19; refine (CA.out _ (Below.refl _ _)).mono ?_; rintro e w1 ⟨rfl, hb⟩; have B1 := Lib.hid hb; clear hb)
    | (go_at_call 21; refine (CR.out _ (B1.out.alloc B1.out.size _)).mono ?_; rintro e w2 ⟨vl, rfl, hown, hb⟩; obtain ⟨A2, c2, rfl⟩ := own_shape hown; have B2 := Lib.hid ((B1.out.alloc B1.out.size _).trans (hb.mono (B1.out.alloc B1.out.size _).size)); clear hb hown)
    | (go_at_call 23; refine (CN.out _ (B2.out.alloc B2.out.size _)).mono ?_; rintro e w3 ⟨vl3, rfl, hown, hb⟩; obtain ⟨A3, c3, rfl⟩ := own_shape hown; have B3 := Lib.hid ((B2.out.alloc B2.out.size _).trans (hb.mono (B2.out.alloc B2.out.size _).size)); clear hb hown))
  go_ret
  exact ⟨rfl, B3.out.alloc B3.out.size _⟩
/-- Kind. -/
theorem kind_any (s : ByteArray) (w : World) (hs : s.size ≤ 999999) (hl : Laid2 w) :
    Calls Tryz.prog 27 #[.string s] w fun e w' => e = .returned (.int .i64 (kindB s)) ∧ Below w.heap.size w w' := by
  unfold kindB
  rcases hA : getA s with _ | xa
  · rcases hR : getR s with _ | xr
    · rcases hN : getN s with _ | xn
      · exact kind_o hs hl hA hR hN
      · exact kind_n hs hl hA hR hN
    · exact kind_r hs hl hA hR
  · exact kind_a hs hl hA
end Go.Proofs.YtlbebdkockejcaaGreatDoor
