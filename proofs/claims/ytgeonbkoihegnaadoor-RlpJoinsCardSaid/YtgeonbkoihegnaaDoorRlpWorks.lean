/-
  The document's examples of layer 2 (rlp).
-/
import Derived.Test.YtgeonbkoihegnaaDoorRlpMore
import Derived.Test.YtgeonbkoihegnaaDoorSegs
namespace Go.Proofs.YtgeonbkoihegnaaDoor
open Go.RowKit
set_option linter.unusedVariables false
set_option linter.unusedSimpArgs false
theorem wk_text1 (w : World) : Calls Tryd.prog 15 #[.string ⟨#[100, 111, 103]⟩] w fun e w' => e = .returned (.string (Nib.bs [131, 100, 111, 103])) ∧ Below w.heap.size w w' :=
  (text_any ⟨#[100, 111, 103]⟩ w (by decide)).mono fun e w' ⟨h, b⟩ => ⟨h.trans (congrArg (fun x => Ending.returned (.string x)) (by kernel_rfl)), b⟩
theorem wk_text2 (w : World) : Calls Tryd.prog 15 #[.string ⟨#[97]⟩] w fun e w' => e = .returned (.string (Nib.bs [97])) ∧ Below w.heap.size w w' :=
  (text_any ⟨#[97]⟩ w (by decide)).mono fun e w' ⟨h, b⟩ => ⟨h.trans (congrArg (fun x => Ending.returned (.string x)) (by kernel_rfl)), b⟩
theorem wk_cat : Nib.bs [131, 100, 111, 103] ++ ⟨#[122]⟩ = Nib.bs [131, 100, 111, 103, 122] := by kernel_rfl
theorem wk_split1 (w : World) (hl : Laid2 w) : Calls Tryd.prog 17 #[.string (Nib.bs [131, 100, 111, 103, 122])] w fun e w' => e = .returned (.tuple #[.bool false, .string ⟨#[100, 111, 103]⟩, .string ⟨#[122]⟩, .int .i64 0]) ∧ Below w.heap.size w w' :=
  (split_any (Nib.bs [131, 100, 111, 103, 122]) w (by decide +kernel) hl).mono fun e w' ⟨h, b⟩ => ⟨h.trans (congrArg Ending.returned (by kernel_rfl)), b⟩
theorem wk_list0 (w : World) (a : Option Addr) (c : Nat) : Calls Tryd.prog 16 #[.slice a 0 c] w fun e w' => e = .returned (.string (Nib.bs [192])) ∧ Below w.heap.size w w' :=
  (list_none a c w).mono fun e w' ⟨h, b⟩ => ⟨h.trans (congrArg (fun x => Ending.returned (.string x)) (by kernel_rfl)), b⟩
/-- rlp.List of two items that were just laid. -/
theorem list_two (x y : ByteArray) (W : World) (hx : x.size ≤ 1048576) (hy : y.size ≤ 1048576) : Calls Tryd.prog 16 #[.slice (some ⟨W.heap.size, 0, none⟩) 2 2] (W.alloc (.cells #[.string x, .string y] 9)) fun e w' => e = .returned (.string (Nib.bs (Rlp.list [x.data.toList, y.data.toList]))) ∧ Below W.heap.size W w' := by
  have := list_any W.heap.size 0 2 [x, y] (W.alloc (.cells #[.string x, .string y] 9)) (by
    intro j z hz
    rcases j with _ | _ | j
    · simp at hz; subst hz; simp
    · simp at hz; subst hz; simp
    · simp at hz) (by simp) (by simp) (by simp) (by simp [datas]; omega)
  refine this.mono ?_
  rintro e w' ⟨h, b⟩
  exact ⟨h, (((Bl.start W).alloc _).call b).1⟩
theorem list_one (x : ByteArray) (W : World) (hx : x.size ≤ 1048576) : Calls Tryd.prog 16 #[.slice (some ⟨W.heap.size, 0, none⟩) 1 1] (W.alloc (.cells #[.string x] 9)) fun e w' => e = .returned (.string (Nib.bs (Rlp.list [x.data.toList]))) ∧ Below W.heap.size W w' := by
  have := list_any W.heap.size 0 1 [x] (W.alloc (.cells #[.string x] 9)) (by
    intro j z hz
    rcases j with _ | j
    · simp at hz; subst hz; simp
    · simp at hz) (by simp) (by simp) (by simp) (by simp [datas]; omega)
  refine this.mono ?_
  rintro e w' ⟨h, b⟩
  exact ⟨h, (((Bl.start W).alloc _).call b).1⟩
theorem wk_list2 (W : World) : Calls Tryd.prog 16 #[.slice (some ⟨W.heap.size, 0, none⟩) 2 2] (W.alloc (.cells #[.string (Nib.bs [97]), .string (Nib.bs [192])] 9)) fun e w' => e = .returned (.string (Nib.bs [194, 97, 192])) ∧ Below W.heap.size W w' :=
  (list_two (Nib.bs [97]) (Nib.bs [192]) W (by decide) (by decide)).mono fun e w' ⟨h, b⟩ => ⟨h.trans (congrArg (fun x => Ending.returned (.string x)) (by kernel_rfl)), b⟩
theorem wk_list1 (W : World) : Calls Tryd.prog 16 #[.slice (some ⟨W.heap.size, 0, none⟩) 1 1] (W.alloc (.cells #[.string (Nib.bs [192])] 9)) fun e w' => e = .returned (.string (Nib.bs [193, 192])) ∧ Below W.heap.size W w' :=
  (list_one (Nib.bs [192]) W (by decide)).mono fun e w' ⟨h, b⟩ => ⟨h.trans (congrArg (fun x => Ending.returned (.string x)) (by kernel_rfl)), b⟩
theorem wk_list1' (W : World) (b : Nat) (h : W.cell? ⟨b, 0, none⟩ = some (.string (Nib.bs [192]))) (hb : b < W.heap.size) : Calls Tryd.prog 16 #[.slice (some ⟨b, 0, none⟩) 1 1] W fun e w' => e = .returned (.string (Nib.bs [193, 192])) ∧ Below W.heap.size W w' :=
  (list_any b 0 1 [Nib.bs [192]] W (by
    intro j z hz
    rcases j with _ | j
    · simp at hz; subst hz; simpa using h
    · simp at hz) hb (by simp) (by simp) (by decide)).mono fun e w' ⟨h, b⟩ => ⟨h.trans (congrArg (fun x => Ending.returned (.string x)) (by kernel_rfl)), b⟩
theorem wk_split2 (w : World) (hl : Laid2 w) : Calls Tryd.prog 17 #[.string (Nib.bs [194, 97, 192])] w fun e w' => e = .returned (.tuple #[.bool true, .string (Nib.bs [97, 192]), .string ⟨#[]⟩, .int .i64 0]) ∧ Below w.heap.size w w' :=
  (split_any (Nib.bs [194, 97, 192]) w (by decide +kernel) hl).mono fun e w' ⟨h, b⟩ => ⟨h.trans (congrArg Ending.returned (by kernel_rfl)), b⟩
theorem wk_rows : rows (Nib.bs [97, 192]) = some [[97], [192]] := by kernel_rfl
theorem wk_items (w : World) (hl : Laid2 w) : Calls Tryd.prog 13 #[.string (Nib.bs [97, 192])] w fun e w' => (∃ a c, e = .returned (.tuple #[.slice a 2 c, .int .i64 0])) ∧ Below w.heap.size w w' := by
  have hr := rows_some wk_rows
  refine (items_any (Nib.bs [97, 192]) w (by decide +kernel) hl).mono ?_
  rintro e w' ⟨b, ⟨h, _⟩ | ⟨_, v, he, hv⟩⟩
  · exact absurd (by rw [hr]; exact fine_map _) h
  · rw [hr] at hv
    obtain ⟨a, c, rfl, _⟩ := shape_of hv
    exact ⟨⟨a, c, he⟩, b⟩
theorem wk_num (w : World) : Calls Tryd.prog 12 #[.int .u64 1024] w fun e w' => e = .returned (.string (Nib.bs [130, 4, 0])) ∧ Below w.heap.size w w' :=
  (num_any 1024 w (by omega)).mono fun e w' ⟨h, b⟩ => ⟨h.trans (congrArg (fun x => Ending.returned (.string x)) (by kernel_rfl)), b⟩
theorem wk_get (w : World) : Calls Tryd.prog 11 #[.string (Nib.bs [130, 4, 0])] w fun e w' => e = .returned (.tuple #[.int .u64 1024, .int .i64 0]) ∧ Below w.heap.size w w' :=
  (getnum_any (Nib.bs [130, 4, 0]) w (by decide +kernel)).mono fun e w' ⟨h, b⟩ => ⟨h.trans (congrArg Ending.returned (by kernel_rfl)), b⟩
theorem wk_split3 (w : World) (hl : Laid2 w) : Calls Tryd.prog 17 #[.string (Nib.bs [129, 5])] w fun e w' => e = .returned (.tuple #[.bool false, .string ⟨#[]⟩, .string ⟨#[]⟩, .int .i64 2]) ∧ Below w.heap.size w w' :=
  (split_any (Nib.bs [129, 5]) w (by decide +kernel) hl).mono fun e w' ⟨h, b⟩ => ⟨h.trans (congrArg Ending.returned (by kernel_rfl)), b⟩
theorem wk_check1 (w : World) (hl : Laid2 w) : Calls Tryd.prog 18 #[.string (Nib.bs [193, 192])] w fun e w' => e = .returned (.int .i64 0) ∧ Below w.heap.size w w' :=
  (rcheck_any (Nib.bs [193, 192]) w (by decide +kernel) hl).mono fun e w' ⟨h, b⟩ => ⟨h.trans (congrArg (fun x => Ending.returned (.int .i64 x)) (by kernel_rfl)), b⟩
theorem wk_check2 (w : World) (hl : Laid2 w) : Calls Tryd.prog 18 #[.string ⟨#[]⟩] w fun e w' => e = .returned (.int .i64 2) ∧ Below w.heap.size w w' :=
  (rcheck_any ⟨#[]⟩ w (by decide +kernel) hl).mono fun e w' ⟨h, b⟩ => ⟨h.trans (congrArg (fun x => Ending.returned (.int .i64 x)) (by kernel_rfl)), b⟩
set_option maxRecDepth 100000 in
set_option maxHeartbeats 4000000 in
/-- The document's examples. -/
theorem rworks_any (w : World) (hl : Laid2 w) : Calls Tryd.prog 10 #[] w fun e w' => e = .returned (.bool true) ∧ Below w.heap.size w w' := by
  have h2 := hl.lt
  have HL := Lib.hid hl
  clear hl
  have B0 := Lib.hid (Bl.start w)
  have g1 : ∀ W : World, (convert 46 9 (.slice (some ⟨W.heap.size, 0, none⟩) 2 2)).run Tryd.prog (W.alloc (.cells #[.int .u8 129, .int .u8 5] 5)) = .ok (.string (Nib.bs [129, 5])) (W.alloc (.cells #[.int .u8 129, .int .u8 5] 5)) := fun W => conv_lit W [129, 5]
  have g2 : ∀ W : World, (convert 46 9 (.slice (some ⟨W.heap.size, 0, none⟩) 4 4)).run Tryd.prog (W.alloc (.cells #[.int .u8 131, .int .u8 100, .int .u8 111, .int .u8 103] 5)) = .ok (.string (Nib.bs [131, 100, 111, 103])) (W.alloc (.cells #[.int .u8 131, .int .u8 100, .int .u8 111, .int .u8 103] 5)) := fun W => conv_lit W [131, 100, 111, 103]
  have g3 : ∀ W : World, (convert 46 9 (.slice (some ⟨W.heap.size, 0, none⟩) 1 1)).run Tryd.prog (W.alloc (.cells #[.int .u8 192] 5)) = .ok (.string (Nib.bs [192])) (W.alloc (.cells #[.int .u8 192] 5)) := fun W => conv_lit W [192]
  have g4 : ∀ W : World, (convert 46 9 (.slice (some ⟨W.heap.size, 0, none⟩) 3 3)).run Tryd.prog (W.alloc (.cells #[.int .u8 130, .int .u8 4, .int .u8 0] 5)) = .ok (.string (Nib.bs [130, 4, 0])) (W.alloc (.cells #[.int .u8 130, .int .u8 4, .int .u8 0] 5)) := fun W => conv_lit W [130, 4, 0]
  go_enter Tryd.func10, Tryd.ntmps10
  go_wp2_with fail
  refine (wk_text1 _).mono ?_
  rintro e w1 ⟨rfl, b⟩
  have B1 := Lib.hid (B0.out.call b)
  clear b
  go_wp2_with fail
  rw [wk_cat]
  refine (wk_split1 _ (laid2_below HL.out B1.out.1 h2)).mono ?_
  rintro e w2 ⟨rfl, b⟩
  have B2 := Lib.hid (B1.out.call b)
  clear b
  go_wp2_with fail
  refine (wk_text2 _).mono ?_
  rintro e w3 ⟨rfl, b⟩
  have B3 := Lib.hid (B2.out.call b)
  clear b
  go_wp2_with fail
  refine (wk_list0 _ _ _).mono ?_
  rintro e w4 ⟨rfl, b⟩
  have B4 := Lib.hid (B3.out.call b)
  clear b
  go_wp2_with fail
  refine (wk_list2 _).mono ?_
  rintro e w5 ⟨rfl, b⟩
  have B5 := Lib.hid (B4.out.call b)
  clear b
  go_wp2_with fail
  refine (wk_split2 _ (laid2_below HL.out B5.out.1 h2)).mono ?_
  rintro e w6 ⟨rfl, b⟩
  have B6 := Lib.hid (B5.out.call b)
  clear b
  go_wp2_with fail
  refine (wk_items _ (laid2_below HL.out B6.out.1 h2)).mono ?_
  rintro e w7 ⟨⟨ia, ic, rfl⟩, b⟩
  have B7 := Lib.hid (B6.out.call b)
  clear b
  go_wp2_with fail
  refine (wk_num _).mono ?_
  rintro e w8 ⟨rfl, b⟩
  have B8 := Lib.hid (B7.out.call b)
  clear b
  go_wp2_with fail
  refine (wk_get _).mono ?_
  rintro e w9 ⟨rfl, b⟩
  have B9 := Lib.hid (B8.out.call b)
  clear b
  go_wp2_with fail
  refine (wk_split3 _ (laid2_below HL.out (B9.out.alloc _).1 h2)).mono ?_
  rintro e w10 ⟨rfl, b⟩
  have B10 := Lib.hid ((B9.out.alloc _).call b)
  clear b
  go_wp2_with fail
  refine (why_errno 9 _ (laid2_below HL.out B10.out.1 h2)).mono ?_
  rintro e w11 ⟨rfl, b⟩
  have B11 := Lib.hid (B10.out.call b)
  clear b
  go_wp2_with fail
  have b11 := B11.out.drew
  simp only [List.append_eq, List.cons_append, List.nil_append]
  refine Segs.wp_region_segs Segs.Hist ([false, true, true, false, false, false, true, true, false, false, false, false, true, true] ++ List.replicate 52 false ++ [true, true] ++ List.replicate 16 false) Segs.Hist.refl Segs.Hist.trans (by kernel_rfl) (by kernel_rfl) (by kernel_rfl) ?_
  generalize w11.drew = v1 at b11 ⊢
  have c1 := Lib.hid b11
  clear b11 g1 g2 g3 g4
  refine Segs.wpM_stretch 1 Segs.Hist.refl (by decide) rfl (by kernel_rfl) ?_
  apply Exists.intro
  refine ⟨?_, ?_⟩
  · intro w0 h0
    simp only [List.take_succ_cons, List.take_zero]
    repeat go_big_quiet_step (first
      | exact fun _ => rfl
      | (intro h; (with_reducible refine (wk_text1 _).mono ?_); exact fun e w' ⟨he, b⟩ => ⟨he, Segs.Hist.trans _ _ _ h b⟩)
      | (intro h; (with_reducible refine (wk_num _).mono ?_); exact fun e w' ⟨he, b⟩ => ⟨he, Segs.Hist.trans _ _ _ h b⟩)
      | (intro h; (with_reducible refine (wk_list0 _ _ _).mono ?_); exact fun e w' ⟨he, b⟩ => ⟨he, Segs.Hist.trans _ _ _ h b⟩)
      | (intro h; have hl2 := (laid2_below HL.out ((c1.out.later h0).later h).1 h2); (with_reducible refine (wk_check1 _ hl2).mono ?_); exact fun e w' ⟨he, b⟩ => ⟨he, Segs.Hist.trans _ _ _ h b⟩)
      | (intro h; have hl2 := (laid2_below HL.out ((c1.out.later h0).later h).1 h2); (with_reducible refine (wk_check2 _ hl2).mono ?_); exact fun e w' ⟨he, b⟩ => ⟨he, Segs.Hist.trans _ _ _ h b⟩))
    exact wpQuiet_nil rfl
  simp only [List.drop_succ_cons, List.drop_zero]
  refine Segs.wpM_alone (fun v2 h => ?_)
  have c2 := Lib.hid (c1.out.later h)
  clear h
  go_wp2_with fail
  refine Segs.after_alone (Segs.Hist.alloc _ _) ?_
  have d2 := Lib.hid (c2.out.alloc (.cells #[.int .u8 131, .int .u8 100, .int .u8 111, .int .u8 103] 5))
  have l2 := Lib.hid (Lit.new v2 [131, 100, 111, 103])
  refine Segs.wpM_alone (fun v3 h => ?_)
  have c3 := Lib.hid (d2.out.later h)
  have g := (l2.out.later h).conv
  simp only [List.length_cons, List.length_nil, Nat.zero_add, Nat.reduceAdd] at g
  clear h
  go_wp2_with fail
  clear g
  refine Segs.after_alone (Segs.Hist.refl _) ?_
  refine Segs.wpM_stretch 3 Segs.Hist.refl (by decide) rfl (by kernel_rfl) ?_
  apply Exists.intro
  refine ⟨?_, ?_⟩
  · intro w0 h0
    simp only [List.take_succ_cons, List.take_zero]
    repeat go_big_quiet_step (first
      | exact fun _ => rfl
      | (intro h; (with_reducible refine (wk_text1 _).mono ?_); exact fun e w' ⟨he, b⟩ => ⟨he, Segs.Hist.trans _ _ _ h b⟩)
      | (intro h; (with_reducible refine (wk_num _).mono ?_); exact fun e w' ⟨he, b⟩ => ⟨he, Segs.Hist.trans _ _ _ h b⟩)
      | (intro h; (with_reducible refine (wk_list0 _ _ _).mono ?_); exact fun e w' ⟨he, b⟩ => ⟨he, Segs.Hist.trans _ _ _ h b⟩)
      | (intro h; have hl2 := (laid2_below HL.out ((c3.out.later h0).later h).1 h2); (with_reducible refine (wk_check1 _ hl2).mono ?_); exact fun e w' ⟨he, b⟩ => ⟨he, Segs.Hist.trans _ _ _ h b⟩)
      | (intro h; have hl2 := (laid2_below HL.out ((c3.out.later h0).later h).1 h2); (with_reducible refine (wk_check2 _ hl2).mono ?_); exact fun e w' ⟨he, b⟩ => ⟨he, Segs.Hist.trans _ _ _ h b⟩))
    exact wpQuiet_nil rfl
  simp only [List.drop_succ_cons, List.drop_zero]
  refine Segs.wpM_alone (fun v4 h => ?_)
  have c4 := Lib.hid (c3.out.later h)
  clear h
  go_wp2_with fail
  refine Segs.after_alone (Segs.Hist.alloc _ _) ?_
  have d4 := Lib.hid (c4.out.alloc (.cells #[.int .u8 192] 5))
  have l4 := Lib.hid (Lit.new v4 [192])
  refine Segs.wpM_alone (fun v5 h => ?_)
  have c5 := Lib.hid (d4.out.later h)
  have g := (l4.out.later h).conv
  simp only [List.length_cons, List.length_nil, Nat.zero_add, Nat.reduceAdd] at g
  clear h
  go_wp2_with fail
  clear g
  refine Segs.after_alone (Segs.Hist.refl _) ?_
  refine Segs.wpM_stretch 4 Segs.Hist.refl (by decide) rfl (by kernel_rfl) ?_
  apply Exists.intro
  refine ⟨?_, ?_⟩
  · intro w0 h0
    simp only [List.take_succ_cons, List.take_zero]
    repeat go_big_quiet_step (first
      | exact fun _ => rfl
      | (intro h; (with_reducible refine (wk_text1 _).mono ?_); exact fun e w' ⟨he, b⟩ => ⟨he, Segs.Hist.trans _ _ _ h b⟩)
      | (intro h; (with_reducible refine (wk_num _).mono ?_); exact fun e w' ⟨he, b⟩ => ⟨he, Segs.Hist.trans _ _ _ h b⟩)
      | (intro h; (with_reducible refine (wk_list0 _ _ _).mono ?_); exact fun e w' ⟨he, b⟩ => ⟨he, Segs.Hist.trans _ _ _ h b⟩)
      | (intro h; have hl2 := (laid2_below HL.out ((c5.out.later h0).later h).1 h2); (with_reducible refine (wk_check1 _ hl2).mono ?_); exact fun e w' ⟨he, b⟩ => ⟨he, Segs.Hist.trans _ _ _ h b⟩)
      | (intro h; have hl2 := (laid2_below HL.out ((c5.out.later h0).later h).1 h2); (with_reducible refine (wk_check2 _ hl2).mono ?_); exact fun e w' ⟨he, b⟩ => ⟨he, Segs.Hist.trans _ _ _ h b⟩))
    exact wpQuiet_nil rfl
  simp only [List.drop_succ_cons, List.drop_zero]
  refine Segs.wpM_alone (fun v6 h => ?_)
  have c6 := Lib.hid (c5.out.later h)
  clear h
  go_wp2_with fail
  refine Segs.after_alone (Segs.Hist.alloc _ _) ?_
  have d6 := Lib.hid (c6.out.alloc (.cells #[.int .u8 130, .int .u8 4, .int .u8 0] 5))
  have l6 := Lib.hid (Lit.new v6 [130, 4, 0])
  refine Segs.wpM_alone (fun v7 h => ?_)
  have c7 := Lib.hid (d6.out.later h)
  have g := (l6.out.later h).conv
  simp only [List.length_cons, List.length_nil, Nat.zero_add, Nat.reduceAdd] at g
  clear h
  go_wp2_with fail
  clear g
  refine Segs.after_alone (Segs.Hist.refl _) ?_
  refine Segs.wpM_stretch 52 Segs.Hist.refl (by decide) rfl (by kernel_rfl) ?_
  apply Exists.intro
  refine ⟨?_, ?_⟩
  · intro w0 h0
    simp only [List.take_succ_cons, List.take_zero]
    repeat go_big_quiet_step (first
      | exact fun _ => rfl
      | (intro h; (with_reducible refine (wk_text1 _).mono ?_); exact fun e w' ⟨he, b⟩ => ⟨he, Segs.Hist.trans _ _ _ h b⟩)
      | (intro h; (with_reducible refine (wk_num _).mono ?_); exact fun e w' ⟨he, b⟩ => ⟨he, Segs.Hist.trans _ _ _ h b⟩)
      | (intro h; (with_reducible refine (wk_list0 _ _ _).mono ?_); exact fun e w' ⟨he, b⟩ => ⟨he, Segs.Hist.trans _ _ _ h b⟩)
      | (intro h; have hl2 := (laid2_below HL.out ((c7.out.later h0).later h).1 h2); (with_reducible refine (wk_check1 _ hl2).mono ?_); exact fun e w' ⟨he, b⟩ => ⟨he, Segs.Hist.trans _ _ _ h b⟩)
      | (intro h; have hl2 := (laid2_below HL.out ((c7.out.later h0).later h).1 h2); (with_reducible refine (wk_check2 _ hl2).mono ?_); exact fun e w' ⟨he, b⟩ => ⟨he, Segs.Hist.trans _ _ _ h b⟩))
    exact wpQuiet_nil rfl
  simp only [List.drop_succ_cons, List.drop_zero]
  refine Segs.wpM_alone (fun v8 h => ?_)
  have c8 := Lib.hid (c7.out.later h)
  clear h
  go_wp2_with fail
  refine Segs.after_alone (Segs.Hist.alloc _ _) ?_
  have d8 := Lib.hid (c8.out.alloc (.cells #[.string (Nib.bs [192])] 9))
  have l8 : Hid ((v8.alloc (.cells #[.string (Nib.bs [192])] 9)).cell? ⟨v8.heap.size, 0, none⟩ = some (.string (Nib.bs [192]))) := Lib.hid (by simp)
  have z8 : Hid (v8.heap.size < (v8.alloc (.cells #[.string (Nib.bs [192])] 9)).heap.size) := Lib.hid (by simp)
  refine Segs.wpM_alone (fun v9 h => ?_)
  have c9 := Lib.hid (d8.out.later h)
  have l9 := Lib.hid ((World.cell?_of_block (h.block _ z8.out)).trans l8.out)
  have z9 := Lib.hid (Nat.lt_of_lt_of_le z8.out h.size)
  clear h
  go_wp2_with fail
  refine (wk_list1' _ _ l9.out z9.out).mono ?_
  rintro e w' ⟨rfl, b⟩
  have d9 := Lib.hid (c9.out.call b)
  go_wp2_with fail
  refine Segs.after_alone (Ev := Segs.Hist) b ?_
  refine Segs.wpM_stretch 16 Segs.Hist.refl (by decide) rfl (by kernel_rfl) ?_
  apply Exists.intro
  refine ⟨?_, ?_⟩
  · intro w0 h0
    simp only [List.take_succ_cons, List.take_zero]
    repeat go_big_quiet_step (first
      | exact fun _ => rfl
      | (intro h; (with_reducible refine (wk_text1 _).mono ?_); exact fun e w' ⟨he, b⟩ => ⟨he, Segs.Hist.trans _ _ _ h b⟩)
      | (intro h; (with_reducible refine (wk_num _).mono ?_); exact fun e w' ⟨he, b⟩ => ⟨he, Segs.Hist.trans _ _ _ h b⟩)
      | (intro h; (with_reducible refine (wk_list0 _ _ _).mono ?_); exact fun e w' ⟨he, b⟩ => ⟨he, Segs.Hist.trans _ _ _ h b⟩)
      | (intro h; have hl2 := (laid2_below HL.out ((d9.out.later h0).later h).1 h2); (with_reducible refine (wk_check1 _ hl2).mono ?_); exact fun e w' ⟨he, b⟩ => ⟨he, Segs.Hist.trans _ _ _ h b⟩)
      | (intro h; have hl2 := (laid2_below HL.out ((d9.out.later h0).later h).1 h2); (with_reducible refine (wk_check2 _ hl2).mono ?_); exact fun e w' ⟨he, b⟩ => ⟨he, Segs.Hist.trans _ _ _ h b⟩))
    exact wpQuiet_nil rfl
  simp only [List.drop_succ_cons, List.drop_zero]
  refine Segs.wpM_end (fun v10 h => ?_)
  have c10 := Lib.hid (d9.out.later h)
  clear h
  go_wp2_with fail
  go_ret
  exact ⟨rfl, c10.out.1⟩
end Go.Proofs.YtgeonbkoihegnaaDoor
