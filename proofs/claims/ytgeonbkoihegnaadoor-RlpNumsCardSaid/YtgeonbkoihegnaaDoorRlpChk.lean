import Derived.Test.YtgeonbkoihegnaaDoorRlpCheck
namespace Go.Proofs.YtgeonbkoihegnaaDoor
open Go.RowKit Go.Shelf
attribute [local go_sem] Oper.semAt_some
set_option linter.unusedVariables false
set_option linter.unusedSimpArgs false
theorem chkL_append (f : ByteArray → Option Nat) (l r : List Told) (h : chkL f l ≠ none) : chkL f (l ++ r) = chkL f l := by
  induction l with
  | nil => exact absurd rfl h
  | cons x t ih =>
    obtain ⟨b, o⟩ := x
    cases o with
    | some e => rfl
    | none =>
      simp only [chkL, List.cons_append] at h ⊢
      cases hb : f b with
      | some e => simp
      | none => simp only [hb] at h ⊢; exact ih h
/-- The two boxes lie as they lay. -/
theorem check_boxes (w : World) (d : Int) {w1 : World} (bw : Below ((w.alloc (.cells #[.int .i64 d] 3)).alloc (.cells #[.nilIface] 52)).heap.size ((w.alloc (.cells #[.int .i64 d] 3)).alloc (.cells #[.nilIface] 52)) w1) :
    Boxed w1 w.heap.size 3 (.int .i64 d) ∧ Boxed w1 (w.heap.size + 1) 52 .nilIface := by
  have g := grown_of_below bw
  have b0 := (Boxed.new w 3 (.int .i64 d)).alloc (.cells #[.nilIface] 52)
  have b1 := Boxed.new (w.alloc (.cells #[.int .i64 d] 3)) 52 .nilIface
  simp only [World.size_alloc] at b1
  exact ⟨b0.kept g (by simp), b1.kept g (by simp)⟩
theorem laid2_below {w w' : World} (h : Laid2 w) {B : Nat} (k : Below B w w') (hB : 2 < B) : Laid2 w' := by
  unfold Laid2 at *
  rw [World.cell?_of_block (k.block _ hB)]
  exact h
theorem toldErr_none : toldErr none = .nilIface := rfl
theorem toldErr_some (e : Nat) : toldErr (some e) = .iface 76 (.agg #[.int .i64 (e : Int), .int .i64 2]) := rfl
theorem keeps_below {W w1 : World} (h : Below W.heap.size W w1) : KeepsOthers W w1 := KeepsOthers.of_grownBy (grown_of_below h) (fun j o e => by cases e)
/-- One result that lies in memory, by its box. -/
theorem results_box1 {fn : Func} (h : fn.results = #[.cell 4 52]) (tmps : Array Value) (w : World) (a : Nat) (h4 : tmps[4]?.getD undef = .pointer (some ⟨a, 0, none⟩)) {x : Value} (hx : Boxed w a 52 x) :
    (results fn tmps).run Tryd.prog w = .ok x w := results_cell1 h tmps w a h4 hx.cell
set_option maxRecDepth 100000 in
set_option maxHeartbeats 4000000 in
/-- rlp.check, where it looks into a list. -/
theorem check_list (d : Nat) (hd : d + 1 ≤ 32)
    (ih : ∀ (s : ByteArray) (w : World), s.size ≤ 4398046511104 → Laid2 w → Calls Tryd.prog 34 #[.string s, .int .i64 (d : Int)] w fun e w' => e = .returned (toldErr (chk d s)) ∧ Below w.heap.size w w')
    (s : ByteArray) (f n : Nat) (w : World) (hs : s.size ≤ 4398046511104) (hl : Laid2 w) (hT : Rlp.first s.data.toList = .ok (true, f, n)) (hfn : f + n = s.size) :
    Calls Tryd.prog 34 #[.string s, .int .i64 ((d : Int) + 1)] w fun e w' => e = .returned (toldErr (chkL (chk d) (eachF (s.extract f (f + n)) (s.extract f (f + n)).size 0))) ∧ Below w.heap.size w w' := by
  have hz := fun W : World => first_any s W (by omega)
  simp only [hT, firstVal] at hz
  have hXs := extract_size s f n (by omega)
  obtain ⟨X, hX⟩ : ∃ X, X = s.extract f (f + n) := ⟨_, rfl⟩
  obtain ⟨Y, hY⟩ : ∃ Y, Y = s.extract (f + n) s.size := ⟨_, rfl⟩
  have hE : Y.toList.isEmpty = true := by
    rw [ByteArray.toList_eq, List.isEmpty_iff]
    exact List.eq_nil_of_length_eq_zero (by rw [hY, Lib.extract_data]; simp; omega)
  rw [← hX] at hXs ⊢
  simp only [← hX, ← hY] at hz
  have HZ := Lib.hid hz
  have HL := Lib.hid hl
  have HI := Lib.hid ih
  clear hz hX hY hT hl ih
  refine (callsIn_wide (n := 5)).1 ?_
  refine callsIn_of_wp_marks Tryd.func34 rfl trivial ?_ rfl
  simp only [Tryd.ntmps34, List.size_toArray, List.length_cons, List.length_nil, Nat.reduceAdd, Nat.reduceSub, Array.replicate_succ, Array.replicate_zero, List.push_toArray, List.append_toArray, List.nil_append, List.cons_append]
  gi_wp2_with fail
  refine ⟨trivial, (callsIn_wide.2 (HZ.out _)).mono ?_⟩
  rintro e1 w1 ⟨rfl, bw⟩
  obtain ⟨c3, c4, f4, hlt, bw0⟩ := check_world w (d + 1) (by simpa using bw)
  obtain ⟨bx0, bx1⟩ := check_boxes w ((d : Int) + 1) bw
  have hlt0 : w.heap.size < w1.heap.size := by omega
  have hne : ((d : Int) + 1 == 0) = false := by simp; omega
  have hc3 : w1.cell? ⟨w.heap.size, 0, none⟩ = some (.int .i64 ((d : Int) + 1)) := by simpa using c3
  have HB := Lib.hid bw0
  have HC4 := Lib.hid c4
  have HX0 := Lib.hid bx0
  have HX1 := Lib.hid bx1
  clear bw bw0 c3 c4 f4 bx0 bx1
  gi_wp2_with fail
  refine ⟨trivial, (callsIn_wide.2 (each_any X _)).mono ?_⟩
  rintro e1 w2 ⟨rfl, rfl⟩
  gi_wp2_with fail
  clear hc3
  obtain ⟨N, hN⟩ : ∃ N, N = w.heap.size := ⟨_, rfl⟩
  obtain ⟨B, hB⟩ : ∃ B, B = w1.heap.size := ⟨_, rfl⟩
  have b0' := (HX0.out.alloc (.cells #[.bool true, .string X, .string Y] 50)).alloc (.cells #[.string X] 9)
  have b1' := (HX1.out.alloc (.cells #[.bool true, .string X, .string Y] 50)).alloc (.cells #[.string X] 9)
  have bS := Boxed.new (w1.alloc (.cells #[.bool true, .string X, .string Y] 50)) 9 (.string X)
  simp only [World.size_alloc] at bS
  have hB0 : Below w.heap.size w ((w1.alloc (.cells #[.bool true, .string X, .string Y] 50)).alloc (.cells #[.string X] 9)) := (HB.out.alloc (by omega) _).alloc (by simp; omega) _
  have hsz : ((w1.alloc (.cells #[.bool true, .string X, .string Y] 50)).alloc (.cells #[.string X] 9)).heap.size = B + 2 := by simp [hB]
  generalize ((w1.alloc (.cells #[.bool true, .string X, .string Y] 50)).alloc (.cells #[.string X] 9)) = W0 at b0' b1' bS hB0 hsz ⊢
  have hL0 : Laid2 W0 := HL.out.on hB0 (Nat.le_refl _)
  have h2N : 2 < w.heap.size := HL.out.lt
  simp only [← hN, ← hB] at b0' b1' bS hB0 h2N hlt hlt0 ⊢
  have hNw : N ≤ w.heap.size := by omega
  have HN := Lib.hid hN
  clear hN hB HX0 HX1 HB HC4 HZ
  refine wpIn_rangeFunc_ownF rfl (by decide) (gf := 39) (lb := #[.pointer (some ⟨B + 1, 0, none⟩)]) rfl trivial (enters_of Tryd.func39 (by kernel_rfl) rfl)
    (each_stops_in X.size 4 (B + 1) N X (Nat.le_refl _) (by omega) (by decide) h2N W0 (by omega) (by omega) bS.cell hL0) kb_t (kb_b (by omega) (by omega)) (Below.refl _ _) (fun _ => rfl)
    (fun pre W => (∀ x ∈ bare pre, good (chk d) x) ∧ Boxed W N 3 (.int .i64 ((d : Int) + 1)) ∧ Boxed W (N + 1) 52 .nilIface ∧ Boxed W (B + 1) 9 (.string X) ∧ Below N w W)
    (fun c pre W => (c = .ret ∧ chkL (chk d) (bare pre) ≠ none) ∧ Boxed W (N + 1) 52 (toldErr (chkL (chk d) (bare pre))) ∧ Below N w W)
    (OwnFrom.and (ownFrom_pure _ _) (OwnFrom.and (Own.from (boxed_own _ _ _) _) (OwnFrom.and (Own.from (boxed_own _ _ _) _) (OwnFrom.and (Own.from (boxed_own _ _ _) _) (ownFrom_below hNw (by omega))))))
    (fun c => OwnFrom.and (ownFrom_pure _ _) (OwnFrom.and (Own.from (boxed_own _ _ _) _) (ownFrom_below hNw (by omega))))
    ⟨fun _ h => (by cases h), b0', b1', bS, hB0⟩
    (fun x => { tmps := #[.string s, .int .i64 ((d : Int) + 1), undef, .pointer (some ⟨N, 0, none⟩), .pointer (some ⟨N + 1, 0, none⟩), .pointer (some ⟨B, 0, none⟩), .nilIface, .string x.1.1, toldErr x.1.2, undef, .tuple #[.agg #[.bool true, .string X, .string Y], .nilIface], .string s, .tuple #[.agg #[.bool true, .string X, .string Y], .nilIface], .agg #[.bool true, .string X, .string Y], .nilIface, .nilIface, .bool false, undef, .pointer (some ⟨B, 2, none⟩), .string Y, .bool false, undef, undef, undef, undef, undef, undef, undef, undef, .pointer (some ⟨B, 0, none⟩), .bool true, .bool false, .int .i64 ((d : Int) + 1), .bool false, undef, undef, .pointer (some ⟨B, 1, none⟩), .string X, .func (.func 39) #[] #[.pointer (some ⟨B + 1, 0, none⟩)], .string x.1.1, toldErr x.1.2, undef, undef, undef, undef, undef, undef, undef, undef, undef, undef], defers := [] }) ?assign ?body ?done ?stop
  case assign =>
    intro l x W K hK
    simp only [toldEnc]
    gi_wp2
    exact hK
  case body =>
    rintro l pre x W ⟨hF, c0, c1, c3, hB⟩ hlen
    have hc3 := c3.lt
    have hWN : N ≤ W.heap.size := by omega
    have HF := Lib.hid hF
    clear hF
    rcases x with ⟨⟨b, _ | er⟩, hxs⟩
    · simp only [toldErr_none]
      have hlW : Laid2 W := laid2_below HL.out hB h2N
      have hIH := HI.out b W (by simp only at hxs; omega) hlW
      have HIH := Lib.hid hIH
      clear hIH hlW
      have d0 := c0.cell
      rcases hcb : chk d b with _ | er
      · simp only [hcb, toldErr_none] at HIH
        have HCB := Lib.hid hcb
        clear hcb
        gi_wp2_with fail
        refine ⟨trivial, (CallsIn.inRound l (callsIn_wide.2 HIH.out)).mono ?_⟩
        rintro e1 w2 ⟨rfl, bw⟩
        have HBW := Lib.hid bw
        clear bw
        gi_wp2_with fail
        have hg := grown_of_below HBW.out
        refine ⟨keeps_below HBW.out, ⟨HBW.out.mono hWN, (c3.kept hg (by simp)).trans (Eq.symm c3)⟩, ?_, c0.kept hg (by simp), c1.kept hg (by simp), c3.kept hg (by simp), hB.trans (HBW.out.mono hWN)⟩
        intro y hy
        rw [bare_snoc] at hy
        rcases List.mem_append.1 hy with h | h
        · exact HF.out y h
        · rw [List.mem_singleton.1 h]
          exact ⟨rfl, HCB.out⟩
      · simp only [hcb, toldErr_some] at HIH
        have HCB := Lib.hid hcb
        clear hcb
        gi_wp2_with fail
        refine ⟨trivial, (CallsIn.inRound l (callsIn_wide.2 HIH.out)).mono ?_⟩
        rintro e1 w2 ⟨rfl, bw⟩
        have hg := grown_of_below bw
        have d1 := (c1.kept hg (by simp)).cell
        have e1 := (c1.kept hg (by simp)).frozen
        have HBW := Lib.hid bw
        have HG := Lib.hid hg
        clear bw hg
        gi_wp2_with fail
        have hbad : chkL (chk d) (bare (pre ++ [⟨(b, none), hxs⟩])) = some er := by
          rw [bare_snoc]
          exact chkL_bad _ _ [] _ _ HF.out (.inr ⟨rfl, HCB.out⟩)
        refine ⟨(keeps_below HBW.out).trans (KeepsOthers.setCell _ _ _), ⟨rfl, by rw [hbad]; simp⟩, ?_, (hB.trans (HBW.out.mono hWN)).setCell (p := ⟨N + 1, 0, none⟩) (by simp) _⟩
        rw [hbad]
        exact (c1.kept HG.out (by simp)).set _
    · simp only [toldErr_some]
      have d1 := c1.cell
      have e1 := c1.frozen
      gi_wp2_with fail
      have hbad : chkL (chk d) (bare (pre ++ [⟨(b, some er), hxs⟩])) = some er := by
        rw [bare_snoc]
        exact chkL_bad _ _ [] _ _ HF.out (.inl rfl)
      refine ⟨KeepsOthers.setCell _ _ _, ⟨rfl, by rw [hbad]; simp⟩, ?_, hB.setCell (p := ⟨N + 1, 0, none⟩) (by simp) _⟩
      rw [hbad]
      exact c1.set _
  case done =>
    rintro D ys W hD hys ⟨hF, c0, c1, c3, hB⟩ hK
    have d1 := c1.cell
    have e1 := c1.frozen
    have hgood : chkL (chk d) (eachF X X.size 0) = none := by rw [← hys]; exact chkL_good _ _ hF
    have HF := Lib.hid hF
    have HY := Lib.hid hys
    have HGD := Lib.hid hgood
    clear hF hys hgood
    gi_wp2
    have hK2 : (W.setCell ⟨N + 1, 0, none⟩ .nilIface).heap[D]? = some (.deferred (some [])) := by
      rw [Deep.blk_setCell_other _ _ _ _ (by simp; omega)]
      exact hK
    have p1 := (c1.set .nilIface).kept (grownBy_putObj' (W.setCell ⟨N + 1, 0, none⟩ .nilIface) D (.deferred none)) (by simp; omega)
    refine ⟨by simp, .inl ⟨_, _, rfl, run_takeDeferred hK2, ?_⟩⟩
    refine ⟨.nilIface, results_box1 rfl _ _ (N + 1) rfl p1, by rw [HGD.out]; rfl, ?_⟩
    rw [← HN.out]
    exact (hB.setCell (p := ⟨N + 1, 0, none⟩) (by simp) _).trans (belowK_b (w := w) hNw _ D _ _ (by have := HN.out; omega) hK2 rfl rfl)
  case stop =>
    rintro D c pre W hD hp ⟨⟨rfl, hne2⟩, c1, hB⟩ hK
    have hbad : chkL (chk d) (eachF X X.size 0) = chkL (chk d) (bare pre) := by
      obtain ⟨r, hr⟩ := hp
      rw [← hr]
      exact chkL_append _ _ _ hne2
    have HBD := Lib.hid hbad
    clear hp hne2 hbad
    gi_wp2
    have p1 := c1.kept (grownBy_putObj' W D (.deferred none)) (by simp; omega)
    refine ⟨by simp, .inl ⟨_, _, rfl, run_takeDeferred hK, ?_⟩⟩
    refine ⟨toldErr (chkL (chk d) (bare pre)), results_box1 rfl _ _ (N + 1) rfl p1, by rw [HBD.out], ?_⟩
    rw [← HN.out]
    exact hB.trans (belowK_b (w := w) hNw W D _ _ (by have := HN.out; omega) hK rfl rfl)
theorem leaf_of (s : ByteArray) (d : Nat) (h : ∀ l f n, Rlp.first s.data.toList = .ok (l, f, n) → f + n = s.size → l = true → d = 0) : Leaf s d (chk d s) := by
  unfold Leaf
  obtain ⟨g, e, h0⟩ : ∃ g : ByteArray → Option Nat, chk d s = chkTop g s ∧ (d = 0 → g = fun _ => some 0) := by
    cases d with
    | zero => exact ⟨_, rfl, fun _ => rfl⟩
    | succ d => exact ⟨_, rfl, fun h => by cases h⟩
  rcases hT : Rlp.first s.data.toList with er | ⟨l, f, n⟩
  · simp only
    rw [e, chkTop, hT]
  · simp only
    rw [e, chkTop, hT]
    simp only
    by_cases h1 : f + n = s.size
    · rw [if_neg (by simpa using h1)]
      cases l with
      | false => exact .inr (.inl ⟨h1, rfl, rfl⟩)
      | true =>
        have := h _ _ _ hT h1 rfl
        rw [h0 this]
        exact .inr (.inr ⟨h1, rfl, this, rfl⟩)
    · rw [if_pos h1]
      exact .inl ⟨h1, rfl⟩
/-- rlp.check. -/
theorem check_any (d : Nat) (hd : d ≤ 32) : ∀ (s : ByteArray) (w : World), s.size ≤ 4398046511104 → Laid2 w →
    Calls Tryd.prog 34 #[.string s, .int .i64 (d : Int)] w fun e w' => e = .returned (toldErr (chk d s)) ∧ Below w.heap.size w w' := by
  induction d with
  | zero => exact fun s w hs hl => check_leaf s 0 _ w hs (by omega) (leaf_of s 0 (fun _ _ _ _ _ _ => rfl))
  | succ d ih =>
    intro s w hs hl
    by_cases hx : ∃ f n, Rlp.first s.data.toList = .ok (true, f, n) ∧ f + n = s.size
    · obtain ⟨f, n, hT, hfn⟩ := hx
      have e : chk (d + 1) s = chkL (chk d) (eachF (s.extract f (f + n)) (s.extract f (f + n)).size 0) := by
        rw [chk, chkTop, hT]
        simp [hfn]
      rw [e]
      exact check_list d hd (ih (by omega)) s f n w hs hl hT hfn
    · exact check_leaf s (d + 1) _ w hs hd (leaf_of s (d + 1) (fun l f n hT h1 h2 => absurd ⟨f, n, by rw [hT, h2], h1⟩ hx))
/-- What Check tells. -/
def chkNo (s : ByteArray) : Int := if (chk 32 s).isSome then 2 else 0
set_option maxRecDepth 100000 in
/-- rlp.Check. -/
theorem rcheck_any (s : ByteArray) (w : World) (hs : s.size ≤ 4398046511104) (hl : Laid2 w) :
    Calls Tryd.prog 18 #[.string s] w fun e w' => e = .returned (.int .i64 (chkNo s)) ∧ Below w.heap.size w w' := by
  have hc := fun W (h : Laid2 W) => check_any 32 (by omega) s W hs h
  unfold chkNo
  have h2 := hl.lt
  have HL := Lib.hid hl
  rcases hk : chk 32 s with _ | e
  · simp only [hk, toldErr_none, Int.ofNat_eq_natCast, Int.cast_ofNat_Int] at hc
    have HC := Lib.hid hc
    clear hc hk hl
    go_enter Tryd.func18, Tryd.ntmps18
    go_wp2_with fail
    refine (HC.out _ HL.out).mono ?_
    rintro e1 w1 ⟨rfl, bw⟩
    have HB := Lib.hid bw
    clear bw
    go_wp2_with fail
    refine (why_nil _).mono ?_
    rintro e1 w2 ⟨rfl, bw⟩
    have HB2 := Lib.hid (HB.out.trans (bw.mono HB.out.size))
    clear bw
    go_wp2_with fail
    go_ret
    exact ⟨rfl, HB2.out⟩
  · simp only [hk, toldErr_some, Int.ofNat_eq_natCast, Int.cast_ofNat_Int] at hc
    have HC := Lib.hid hc
    clear hc hk hl
    go_enter Tryd.func18, Tryd.ntmps18
    go_wp2_with fail
    refine (HC.out _ HL.out).mono ?_
    rintro e1 w1 ⟨rfl, bw⟩
    have HB := Lib.hid bw
    clear bw
    have HW := Lib.hid (why_fault e 2 w1 (laid2_below HL.out HB.out h2))
    go_wp2_with fail
    refine (HW.out).mono ?_
    rintro e1 w2 ⟨rfl, bw⟩
    have HB2 := Lib.hid (HB.out.trans (bw.mono HB.out.size))
    clear bw
    go_wp2_with fail
    go_ret
    exact ⟨rfl, HB2.out⟩
end Go.Proofs.YtgeonbkoihegnaaDoor
