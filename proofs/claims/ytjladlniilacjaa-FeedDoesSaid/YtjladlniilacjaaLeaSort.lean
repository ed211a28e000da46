/-
  Package lease: slices.SortFunc of at most four slots.
-/
import Derived.Test.YtjladlniilacjaaLeaRep
import Derived.Test.YtjladlniilacjaaLeaLen
import Derived.Deep.RegionLaw
import Derived.StillTailTactics
import Derived.Shelf.Abstract
namespace Go.Proofs.Ytjladlniilacjaa
open Go.RowKit Go.Proofs.Lea
set_option linter.unusedVariables false
set_option linter.unusedSimpArgs false
def cmpF (x y : Int) : Int := if x < y then -1 else if y < x then 1 else 0
theorem quietly0_same {f : FuncId} {args : Array Value} {w : World} {n : Nat} {v : Value} (h : Calls Try.prog f args (w.drewN n) fun e w' => e = .returned v ∧ w.drewN n = w') :
    Calls Try.prog f args (w.drewN n) fun e w' => e = .returned v ∧ ∃ m, w' = w.drewN m := by
  refine h.mono ?_
  rintro e w' ⟨he, rfl⟩
  exact ⟨he, n, rfl⟩
theorem nan_any (x : Int) (w : World) : Calls Try.prog 77 #[.int .i64 x] w fun e w' => e = .returned (.bool false) ∧ w = w' := by
  have h : (x != x) = false := by simp
  go_enter Try.func77, Try.ntmps77
  go_wp2_with fail
  go_ret
  exact ⟨rfl, rfl⟩
theorem compare_any (x y : Int) (w : World) :
    Calls Try.prog 66 #[.int .i64 x, .int .i64 y] w fun e w' => e = .returned (.int .i64 (cmpF x y)) ∧ w = w' := by
  have NAN := Lib.hid (fun x w => nan_any x w)
  by_cases h : x < y
  · have hr : cmpF x y = -1 := by unfold cmpF; rw [if_pos h]
    rw [hr]
    clear hr
    go_enter Try.func66, Try.ntmps66
    go_wp2_with (go_at_call 77; refine (NAN.out _ _).mono ?_; rintro e w1 ⟨rfl, rfl⟩)
    go_ret
    exact ⟨rfl, rfl⟩
  · by_cases h2 : y < x
    · have hr : cmpF x y = 1 := by unfold cmpF; rw [if_neg h, if_pos h2]
      rw [hr]
      clear hr
      have h3 : x > y := h2
      go_enter Try.func66, Try.ntmps66
      go_wp2_with (go_at_call 77; refine (NAN.out _ _).mono ?_; rintro e w1 ⟨rfl, rfl⟩)
      go_ret
      exact ⟨rfl, rfl⟩
    · have hr : cmpF x y = 0 := by unfold cmpF; rw [if_neg h, if_neg h2]
      rw [hr]
      clear hr
      have h3 : ¬ x > y := h2
      go_enter Try.func66, Try.ntmps66
      go_wp2_with (go_at_call 77; refine (NAN.out _ _).mono ?_; rintro e w1 ⟨rfl, rfl⟩)
      go_ret
      exact ⟨rfl, rfl⟩
theorem cmp_any (m x y : Nat) (fx fy : Int) (w : World) (cx : w.cell? ⟨m, 2 + x * 5, none⟩ = some (.int .i64 fx)) (cy : w.cell? ⟨m, 2 + y * 5, none⟩ = some (.int .i64 fy)) :
    Calls Try.prog 65 #[slotP m x, slotP m y] w fun e w' => e = .returned (.int .i64 (cmpF fx fy)) ∧ ∃ q, w' = w.drewN q := by
  have CMP := Lib.hid (fun W => compare_any fx fy W)
  generalize cmpF fx fy = r at CMP ⊢
  unfold slotP
  go_enter Try.func65, Try.ntmps65
  go_wp2_with fail
  go_quiet ((go_at_call 66; exact quietly0_same (CMP.out _)))
  go_wp2_with fail
  go_ret
  exact ⟨rfl, nq, rfl⟩
theorem cmpF_lt (x y : Int) : (cmpF x y < 0) = (x < y) := by
  unfold cmpF
  split
  · next h => simp [h]
  · next h => split <;> simp [h]
/-- A row of slots' places, with what lies behind it. -/
def Lr (m : Nat) (L : List Nat) (tail : List Value) : Array Value := (L.map (slotP m) ++ tail).toArray
theorem Lr_at (m : Nat) (X : List Nat) (x : Nat) (Z : List Nat) (tail : List Value) : (Lr m (X ++ x :: Z) tail)[X.length]? = some (slotP m x) := by
  unfold Lr
  simp
theorem Lr_swap (m : Nat) (X : List Nat) (y x : Nat) (Z : List Nat) (tail : List Value) :
    ((Lr m (X ++ y :: x :: Z) tail).setIfInBounds (X.length + 1) (slotP m y)).setIfInBounds X.length (slotP m x) = Lr m (X ++ x :: y :: Z) tail := by
  unfold Lr
  simp only [List.map_append, List.map_cons, List.append_assoc, List.cons_append, List.setIfInBounds_toArray]
  congr 1
  rw [List.set_append_right _ _ (by simp)]
  simp
theorem elemSlots : Try.prog.underlying 93 = some (.slice (Try.prog.elem 93)) := by kernel_rfl
theorem sizeSlots (W : World) : (sizeOf (Try.prog.elem 93)).run Try.prog W = .ok 1 W := by kernel_rfl
theorem isortR_step (f : Nat → Int) (l : List Nat) (k : Nat) (x : Nat) (hx : l[k]? = some x) : isortR f [] (l.take (k + 1)) = insR f x (isortR f [] (l.take k)) := by
  rw [List.take_add_one, hx, isortR_append]
  rfl
theorem isortR_len (f : Nat → Int) (l : List Nat) (k : Nat) (hk : k ≤ l.length) : (isortR f [] (l.take k)).length = k := by
  rw [(isortR_perm f (l.take k) []).length_eq, List.nil_append, List.length_take]
  omega
set_option maxRecDepth 100000 in
set_option maxHeartbeats 2000000 in
theorem isort_any (m g cap : Nat) (f : Nat → Int) (l : List Nat) (tail : List Value) (w : World) (hl : l.length ≤ 4) (hb : Blk w g 95 (Lr m l tail)) (hc : ∀ W, Far (fun i => i = g) w W → ∀ i ∈ l, W.cell? ⟨m, 2 + i * 5, none⟩ = some (.int .i64 (f i))) :
    Calls Try.prog 85 #[.slice (some ⟨g, 0, none⟩) l.length cap, .int .i64 0, .int .i64 (l.length : Int), .func (.func 65) #[] #[]] w fun e w' =>
      e = .returned (.tuple #[]) ∧ Blk w' g 95 (Lr m (isortR f [] l).reverse tail) ∧ Far (fun i => i = g) w w' := by
  have HB := Lib.hid hb
  have HC := Lib.hid hc
  have eg : ∀ args w, (callFunc 65 args).run Try.prog w = .ok (.enter 65 args) w := enters_of Try.func65 (by kernel_rfl) rfl
  clear hb hc
  go_enter Try.func85, Try.ntmps85
  go_wp2_with fail
  go_loopw [8, 9] (fun vi _ wr => ∃ k : Nat, vi = .int .i64 (k : Int) ∧ 1 ≤ k ∧ (k ≤ l.length ∨ l = []) ∧ Hid (Blk wr g 95 (Lr m ((isortR f [] (l.take k)).reverse ++ l.drop k) tail)) ∧ Hid (Far (fun i => i = g) w wr)) (fun vi _ _ => l.length - (intOf vi).toNat)
  case atStart =>
    refine ⟨1, by go_num, Nat.le_refl _, ?_, Lib.hid ?_, Lib.hid (Far.refl _ _)⟩
    · cases l with
      | nil => exact .inr rfl
      | cons a r => exact .inl (by simp)
    · have : (isortR f [] (l.take 1)).reverse ++ l.drop 1 = l := by cases l <;> rfl
      rw [this]
      exact HB.out
  case round =>
    obtain ⟨k, rfl, hk1, hk, HB, HF⟩ := hrel
    by_cases hlt : k < l.length
    · obtain ⟨x, hx⟩ : ∃ x, l[k]? = some x := ⟨_, List.getElem?_eq_getElem hlt⟩
      obtain ⟨acc, hacc⟩ : ∃ a, a = isortR f [] (l.take k) := ⟨_, rfl⟩
      have hal : acc.length = k := by rw [hacc]; exact isortR_len f l k (by omega)
      have hdr : l.drop k = x :: l.drop (k + 1) := by
        rw [List.drop_eq_getElem_cons hlt]
        congr 1
        rw [List.getElem?_eq_getElem hlt] at hx
        exact Option.some.inj hx
      obtain ⟨Z, hZ⟩ : ∃ Z, Z = l.drop (k + 1) := ⟨_, rfl⟩
      have hin : ∀ y ∈ acc, y ∈ l := fun y hy => by
        rw [hacc] at hy
        have := (isortR_perm f (l.take k) []).mem_iff.1 hy
        exact List.mem_of_mem_take (by simpa using this)
      have HIN := Lib.hid hin
      have HX := Lib.hid (List.mem_of_getElem? hx)
      have HNX := Lib.hid (isortR_step f l k x hx)
      rw [← hacc] at HNX
      have HB1 : Hid (Blk wr g 95 (Lr m (acc.reverse ++ x :: Z) tail)) := Lib.hid (by have := HB.out; rw [← hacc, hdr, ← hZ] at this; exact this)
      have HZ := Lib.hid hZ
      have HAL := Lib.hid hal
      clear HB hacc hal hdr hZ hin hx
      have i1 : (k : Int) < (l.length : Int) := by omega
      have wk : IntKind.i64.wrap ((k : Int) + 1) = (k : Int) + 1 := IntWalk.i64_in _ (by omega)
      go_wp2_with fail
      go_loopw [9] (fun vj wr => ∃ A B : List Nat, vj = .int .i64 (B.length : Int) ∧ Hid (acc = A ++ B) ∧ Hid (∀ a ∈ A, f x < f a) ∧ Hid (Blk wr g 95 (Lr m (B.reverse ++ x :: (A.reverse ++ Z)) tail)) ∧ Hid (Far (fun i => i = g) w wr)) (fun vj _ => (intOf vj).toNat)
      case atStart => exact ⟨[], acc, by rw [HAL.out], Lib.hid rfl, Lib.hid (fun a h => by cases h), HB1, HF⟩
      case round =>
        obtain ⟨A, B, rfl, HE, HA, HB, HF⟩ := hrel
        cases B with
        | nil =>
          have hlen : (([] : List Nat).length : Int) = 0 := rfl
          have hg : decide ((0 : Int) > 0) = false := by decide
          rw [hlen]
          have fin : Hid (insR f x acc = A ++ [x]) := Lib.hid (by rw [HE.out, insR_over f x A [] HA.out]; rfl)
          go_wp2_with fail
          go_quiet (fail)
          go_wp2_with fail
          refine ⟨⟨k + 1, by go_num, by omega, .inl hlt, Lib.hid ?_, Lib.hid (HF.out.drewN _)⟩, by simp [intOf]; omega⟩
          rw [HNX.out, fin.out, ← HZ.out, show (A ++ [x]).reverse ++ Z = ([] : List Nat).reverse ++ x :: (A.reverse ++ Z) by simp]
          exact HB.out.drewN _
        | cons y B' =>
          have hlen : (((y :: B').length : Nat) : Int) = ((B'.length + 1 : Nat) : Int) := rfl
          rw [hlen]
          have hg : decide (((B'.length + 1 : Nat) : Int) > 0) = true := decide_eq_true (by omega)
          have hBl : B'.length + 1 < l.length := by
            have h1 := HAL.out
            rw [HE.out] at h1
            simp at h1
            omega
          have b1 : ((B'.length + 1 : Nat) : Int) < (l.length : Int) := by omega
          have b0 : (B'.length : Int) < (l.length : Int) := by omega
          have wk2 : IntKind.i64.wrap (((B'.length + 1 : Nat) : Int) - 1) = (B'.length : Int) := by rw [show ((B'.length + 1 : Nat) : Int) - 1 = (B'.length : Int) by omega]; exact IntWalk.i64_in _ (by omega)
          have hrow : (y :: B').reverse ++ x :: (A.reverse ++ Z) = B'.reverse ++ y :: x :: (A.reverse ++ Z) := by simp
          have HB2 : Hid (Blk wr g 95 (Lr m (B'.reverse ++ y :: x :: (A.reverse ++ Z)) tail)) := Lib.hid (by have := HB.out; rw [hrow] at this; exact this)
          have c1 : wr.cell? ⟨g, B'.length, none⟩ = some (slotP m y) := by
            rw [HB2.out.cell]
            have := Lr_at m B'.reverse y (x :: (A.reverse ++ Z)) tail
            rw [List.length_reverse] at this
            exact this
          have c2 : wr.cell? ⟨g, B'.length + 1, none⟩ = some (slotP m x) := by
            rw [HB2.out.cell]
            have := Lr_at m (B'.reverse ++ [y]) x (A.reverse ++ Z) tail
            simpa using this
          have hy : y ∈ l := HIN.out y (by rw [HE.out]; simp)
          have CX := HC.out wr HF.out x HX.out
          have CY := HC.out wr HF.out y hy
          have CALL := Lib.hid (fun n => cmp_any m x y (f x) (f y) (wr.drewN n) CX CY)
          have HY := Lib.hid hy
          clear hrow hy CX CY hlen
          by_cases hxy : f x < f y
          · have hr : cmpF (f x) (f y) = -1 := if_pos hxy
            have HXY := Lib.hid hxy
            rw [hr] at CALL
            have hn : decide ((-1 : Int) < 0) = true := by decide
            clear hr hxy
            go_wp2_with fail
            go_quiet ((go_at_fn 65; exact quietly0 (CALL.out _)))
            go_wp2_with fail
            have d1 : (wr.drewN nq).cell? ⟨g, B'.length, none⟩ = some (slotP m y) := c1
            have d2 : (wr.drewN nq).cell? ⟨g, B'.length + 1, none⟩ = some (slotP m x) := c2
            have BW := Lib.hid (HB2.out.drewN nq)
            have FW := Lib.hid (HF.out.drewN nq)
            have g1 := BW.out.frozen B'.length
            have g2 := BW.out.frozen (B'.length + 1)
            clear c1 c2 CALL
            generalize wr.drewN nq = W at d1 d2 g1 g2 BW FW ⊢
            unfold slotP at d1 d2 ⊢
            go_region
            all_goals
              go_wp2_with fail
              refine ⟨⟨A ++ [y], B', rfl, Lib.hid (by rw [HE.out]; simp), Lib.hid (fun a ha => ?_), Lib.hid ?_, Lib.hid ?_⟩, by simp [intOf]⟩
              · rcases List.mem_append.1 ha with h | h
                · exact HA.out a h
                · rw [List.mem_singleton.1 h]; exact HXY.out
              · have h1 := (BW.out.set (B'.length + 1) (slotP m y)).set B'.length (slotP m x)
                have h2 := Lr_swap m B'.reverse y x (A.reverse ++ Z) tail
                rw [List.length_reverse] at h2
                rw [h2] at h1
                rw [show (A ++ [y]).reverse ++ Z = y :: (A.reverse ++ Z) by simp]
                exact h1
              · exact ((FW.out.setCell (p := ⟨g, B'.length + 1, none⟩) (fun _ => rfl) _).setCell (p := ⟨g, B'.length, none⟩) (fun _ => rfl) _).drew
          · have hr : ¬ cmpF (f x) (f y) < 0 := by rw [cmpF_lt]; exact hxy
            have fin : Hid (insR f x acc = A ++ x :: y :: B') := Lib.hid (by
              rw [HE.out, insR_over f x A _ HA.out]
              congr 1
              show (if f x < f y then _ else _) = _
              rw [if_neg hxy])
            generalize cmpF (f x) (f y) = r at CALL hr
            have hn : decide (r < 0) = false := decide_eq_false hr
            clear hxy hr
            go_wp2_with fail
            go_quiet ((go_at_fn 65; exact quietly0 (CALL.out _)))
            go_wp2_with fail
            refine ⟨⟨k + 1, by go_num, by omega, .inl hlt, Lib.hid ?_, Lib.hid (HF.out.drewN _)⟩, by simp [intOf]; omega⟩
            rw [HNX.out, fin.out, ← HZ.out, show (A ++ x :: y :: B').reverse ++ Z = B'.reverse ++ y :: x :: (A.reverse ++ Z) by simp]
            exact HB2.out.drewN _
    · have hnl : ¬ (k : Int) < (l.length : Int) := by omega
      go_wp2_with fail
      go_end0
      have := HB.out
      rw [List.take_of_length_le (by omega), List.drop_of_length_le (by omega), List.append_nil] at this
      exact ⟨rfl, this, HF.out⟩
/-- What a sort of a row of slots leaves. -/
def Srt (m g : Nat) (f : Nat → Int) (l : List Nat) (tail : List Value) (w : World) (e : Ending) (w' : World) : Prop :=
  e = .returned (.tuple #[]) ∧ Blk w' g 95 (Lr m (isortR f [] l).reverse tail) ∧ Far (fun i => i = g) w w'
set_option maxRecDepth 100000 in
set_option maxHeartbeats 2000000 in
theorem pdq_any (m g cap : Nat) (lim : Int) (f : Nat → Int) (l : List Nat) (tail : List Value) (w : World) (hl : l.length ≤ 4) (hb : Blk w g 95 (Lr m l tail)) (hc : ∀ W, Far (fun i => i = g) w W → ∀ i ∈ l, W.cell? ⟨m, 2 + i * 5, none⟩ = some (.int .i64 (f i))) :
    Calls Try.prog 75 #[.slice (some ⟨g, 0, none⟩) l.length cap, .int .i64 0, .int .i64 (l.length : Int), .int .i64 lim, .func (.func 65) #[] #[]] w (Srt m g f l tail w) := by
  have H := isort_any m g cap f l tail w hl hb hc
  obtain ⟨n, hn⟩ : ∃ n : Int, n = (l.length : Int) := ⟨_, rfl⟩
  rw [← hn] at H ⊢
  have wk : IntKind.i64.wrap (n - 0) = n := by rw [Int.sub_zero]; exact IntWalk.i64_in _ (by omega)
  have wn : wrap64 n = n := IntWalk.wrap64_in _ (by omega)
  have h12 : n ≤ 12 := by omega
  have h12' : ¬ 12 < n := by omega
  have H := Lib.hid H
  clear hb hc hn
  go_enter Try.func75, Try.ntmps75
  go_wp2_with fail
  refine wp_loop_rounds 1 ?_
  rw [rounds_succ]
  go_wp2_with (go_at_call 85; refine H.out.mono ?_; rintro e w1 ⟨rfl, h1, h2⟩; have H1 := Lib.hid h1; have H2 := Lib.hid h2; clear h1 h2)
  (try simp only [Exit.inBlock, Exit.then])
  refine bodyPost_ret (results_none rfl _ _ _) rfl ?_
  exact ⟨rfl, H1.out, H2.out⟩
theorem sortFunc_any (m g cap : Nat) (f : Nat → Int) (l : List Nat) (tail : List Value) (w : World) (hl : l.length ≤ 4) (hb : Blk w g 95 (Lr m l tail)) (hc : ∀ W, Far (fun i => i = g) w W → ∀ i ∈ l, W.cell? ⟨m, 2 + i * 5, none⟩ = some (.int .i64 (f i))) :
    Calls Try.prog 64 #[.slice (some ⟨g, 0, none⟩) l.length cap, .func (.func 65) #[] #[]] w (Srt m g f l tail w) := by
  have H := fun lim => pdq_any m g cap lim f l tail w hl hb hc
  have HL := bitsLen_any (l.length : Int) (by omega)
  have wk : IntKind.u64.wrap (l.length : Int) = (l.length : Int) := by
    have h0 : 0 ≤ (l.length : Int) := by omega
    have h4 : (l.length : Int) ≤ 4 := by omega
    simp [IntKind.wrap, IntKind.bits, IntKind.signed]
    omega
  have H := Lib.hid H
  have HL := Lib.hid HL
  clear hb hc
  go_enter Try.func64, Try.ntmps64
  go_wp2_with (first
    | (go_at_call 76; refine (HL.out _).mono ?_; rintro e w1 ⟨⟨lim, rfl⟩, rfl⟩)
    | (go_at_call 75; refine (H.out _).mono ?_; rintro e w1 ⟨rfl, h1, h2⟩; have H1 := Lib.hid h1; have H2 := Lib.hid h2; clear h1 h2))
  go_end0
  exact ⟨rfl, H1.out, H2.out⟩
theorem isort_nil (w : World) :
    Calls Try.prog 85 #[.slice none 0 0, .int .i64 0, .int .i64 0, .func (.func 65) #[] #[]] w fun e w' => e = .returned (.tuple #[]) ∧ w = w' := by
  go_enter Try.func85, Try.ntmps85
  go_wp2_with fail
  refine wp_loop_rounds 1 ?_
  rw [rounds_succ]
  go_wp2_with fail
  go_end0
  exact ⟨rfl, rfl⟩
theorem pdq_nil (lim : Int) (w : World) :
    Calls Try.prog 75 #[.slice none 0 0, .int .i64 0, .int .i64 0, .int .i64 lim, .func (.func 65) #[] #[]] w fun e w' => e = .returned (.tuple #[]) ∧ w = w' := by
  have H := Lib.hid (isort_nil w)
  go_enter Try.func75, Try.ntmps75
  go_wp2_with fail
  refine wp_loop_rounds 1 ?_
  rw [rounds_succ]
  go_wp2_with (go_at_call 85; refine H.out.mono ?_; rintro e w1 ⟨rfl, rfl⟩)
  (try simp only [Exit.inBlock, Exit.then])
  refine bodyPost_ret (results_none rfl _ _ _) rfl ?_
  exact ⟨rfl, rfl⟩
theorem sortFunc_nil (w : World) :
    Calls Try.prog 64 #[.slice none 0 0, .func (.func 65) #[] #[]] w fun e w' => e = .returned (.tuple #[]) ∧ w = w' := by
  have H := Lib.hid (fun lim => pdq_nil lim w)
  have HL := Lib.hid (bitsLen_any 0 (.inl rfl))
  go_enter Try.func64, Try.ntmps64
  go_wp2_with (first
    | (go_at_call 76; refine (HL.out _).mono ?_; rintro e w1 ⟨⟨lim, rfl⟩, rfl⟩)
    | (go_at_call 75; refine (H.out _).mono ?_; rintro e w1 ⟨rfl, rfl⟩))
  go_end0
  exact ⟨rfl, rfl⟩
end Go.Proofs.Ytjladlniilacjaa
