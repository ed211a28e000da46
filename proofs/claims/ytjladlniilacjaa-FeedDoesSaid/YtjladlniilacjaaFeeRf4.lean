/-
  The document's answer for feed (guillocheref18): Subscribe, Unsubscribe, Forget.
-/
import Derived.Test.YtjladlniilacjaaFeeRf3
import Derived.Test.YtjladlniilacjaaFeeForgets
namespace Go.Proofs.Fee
theorem putK_id {α : Type} {ks : Keyz α} (h : Up ks) {s : Int} {x : α} (hx : atK ks s = some x) : putK ks s x = ks := by
  induction ks with
  | nil => cases hx
  | cons p r ih =>
    obtain ⟨h1, h2⟩ := List.pairwise_cons.1 h
    unfold putK
    by_cases hlt : p.1 < s
    · have e : atK (p :: r) s = atK r s := by unfold atK; rw [List.find?_cons]; simp [Int.ne_of_lt hlt]
      rw [if_pos hlt, ih h2 (by rw [← e]; exact hx)]
    · rw [if_neg hlt]
      by_cases he : p.1 = s
      · have e : atK (p :: r) s = some p.2 := by unfold atK; rw [List.find?_cons]; simp [he]
        rw [e] at hx
        cases hx
        rw [if_pos he]
        subst he
        rfl
      · exfalso
        have := atK_some hx
        rcases List.mem_cons.1 this with e | hm
        · exact he (by rw [← e])
        · have := h1 _ hm
          simp only at this
          omega
end Go.Proofs.Fee
namespace Go.Proofs.Ytjladlniilacjaa
open Go.RowKit Go.Proofs.Fee
set_option linter.unusedVariables false
set_option linter.unusedSimpArgs false
theorem withF_on (t : Tbl) (s : Int) (q : List Ntc) : withF t s ⟨true, q⟩ = t.put s ⟨true, q⟩ := by unfold withF Row.bare; simp
theorem withF_none (t : Tbl) (s : Int) : withF t s ⟨false, []⟩ = t.del s := rfl
theorem withF_tidy {t : Tbl} (hu : Up t.rows) (s : Int) (r : Row) : withF t s r = (t.put s r).tidy s := by
  have e : (t.put s r).row s = r := by rw [row_put hu, if_pos rfl]
  unfold withF Tbl.tidy
  rw [e]
  by_cases hb : r.bare = true
  · rw [if_pos hb, if_pos hb]
    show _ = (t.put s r).del s
    unfold Tbl.del Tbl.put
    simp only
    congr 1
    unfold delK
    induction t.rows with
    | nil => unfold putK; simp
    | cons p l ih =>
      unfold putK
      by_cases h1 : p.1 < s
      · rw [if_pos h1, List.filter_cons, List.filter_cons, ih]
      · rw [if_neg h1]
        by_cases h2 : p.1 = s
        · rw [if_pos h2, List.filter_cons, List.filter_cons]
          simp [h2]
        · rw [if_neg h2, List.filter_cons, List.filter_cons]
          simp [h2]
  · rw [if_neg hb, if_neg hb]
/-- What takes a row off that isn't there, or keeps it, does nothing. -/
theorem withF_same {t : Tbl} (h : t.Ok) (hf : t.Full) (s : Int) : withF t s (t.row s) = t := by
  unfold withF
  cases hx : atK t.rows s with
  | none =>
    have e : t.row s = r0 := by unfold Tbl.row; rw [hx]; rfl
    rw [e, if_pos (show r0.bare = true from rfl)]
    show (⟨t.room, delK t.rows s⟩ : Tbl) = t
    rw [delK_off (by rw [← atK_has, hx]; rfl)]
  | some r =>
    have e : t.row s = r := by unfold Tbl.row; rw [hx]; rfl
    have hb := hf _ (atK_some hx)
    rw [e, if_neg (by rw [hb]; exact Bool.false_ne_true)]
    show (⟨t.room, putK t.rows s r⟩ : Tbl) = t
    rw [putK_id h.up hx]
section
variable {N N' : Nat → Prop} {w w' : World}
theorem Rf.keep {v : Value} {t : Tbl} (h : Rf N w v t) (hs : w.heap.size ≤ w'.heap.size) (k : ∀ b, b < w.heap.size → N b → N' b ∧ w'.heap[b]? = w.heap[b]?) (kc : ∀ g c, Blk w g 142 c → w'.heap[g]? = w.heap[g]?) : Rf N' w' v t := by
  obtain ⟨xs, h1, h2⟩ := h
  exact ⟨xs, h1.keep hs k kc, h2⟩
theorem Rf.shape {v : Value} {t : Tbl} (h : Rf N w v t) : ∃ A n c, v = .slice A n c := by
  obtain ⟨xs, h1, h2⟩ := h
  obtain ⟨A, c, h⟩ := h1.shape
  exact ⟨A, _, c, h⟩
/-- Without one block, that is new. -/
theorem Rf.but {v : Value} {t : Tbl} (h : Rf N w v t) (k : Below w.heap.size w w') {r : Nat} (hr : w.heap.size ≤ r) : Rf (fun b => N b ∧ b ≠ r) w' v t :=
  h.keep k.size (fun b hb hn => ⟨⟨hn, by omega⟩, k.block b hb⟩) (fun g c hg => k.block g hg.lt)
theorem Lx.but {x : Rx} (h : Lx N w x) (k : Below w.heap.size w w') {r : Nat} (hr : ∀ b, b < w.heap.size → N b → b ≠ r) : Lx (fun b => N b ∧ b ≠ r) w' x :=
  h.keep k.size (fun b hb hn => ⟨⟨hn, hr b hb hn⟩, k.block b hb⟩) (fun g c hg => k.block g hg.lt)
theorem Rf.set {v : Value} {t : Tbl} {r : Nat} {T : TypeId} {c0 : Array Value} (h : Rf (fun b => N b ∧ b ≠ r) w v t) (hb : Blk w r T c0) (hT : T ≠ 142) (F : Far (fun j => j = r) w w') : Rf N w' v t :=
  h.keep F.size (fun b hl hn => ⟨hn.1, F.block b hl hn.2⟩) (fun g c hg => F.block g hg.lt (fun e => hT (by subst e; exact blk_type hb hg)))
end
set_option maxRecDepth 100000 in
set_option maxHeartbeats 1000000 in
theorem rfsub_any {N : Nat → Prop} {w : World} {v : Value} {t : Tbl} (hN : ∀ k, w.heap.size ≤ k → N k) (h : Rf N w v t) (ok : t.Ok) (z : Int) (s : Int) (hl : t.rows.length ≤ 1000) :
    Calls Try.prog 55 #[.agg #[.int .i64 z, v], .int .i64 s] w fun e w' => ∃ v', e = .returned (.tuple #[.agg #[.int .i64 z, v'], .bool (t.sub s).2]) ∧ Rf N w' v' (t.sub s).1 ∧ Below w.heap.size w w' := by
  obtain ⟨A, n, c, rfl⟩ := h.shape
  have hfour := ok.four
  have b0 := (((Bl.start w).alloc (.cells #[.int .i64 z, .slice A n c] 58)).alloc (.cells #[.int .i64 0, .slice none 0 0] 58))
  have HN := Lib.hid hN
  have H0 := Lib.hid h
  have OK := Lib.hid ok
  have H1 := Lib.hid (h.but b0.1 (r := w.heap.size + 1) (by omega))
  have BK := Lib.hid ((Blk.new w 58 #[.int .i64 z, .slice A n c]).alloc (.cells #[.int .i64 0, .slice none 0 0] 58))
  have BR := Lib.hid (by have := Blk.new (w.alloc (.cells #[.int .i64 z, .slice A n c] 58)) 58 #[.int .i64 0, .slice none 0 0]; rwa [World.size_alloc] at this)
  have B0 := Lib.hid b0
  have SZ : Hid (((w.alloc (.cells #[.int .i64 z, .slice A n c] 58)).alloc (.cells #[.int .i64 0, .slice none 0 0] 58)).heap.size = w.heap.size + 1 + 1) := Lib.hid (by simp)
  clear h b0 hN ok
  go_enter Try.func55, Try.ntmps55
  go_wp2_with fail
  generalize (w.alloc (.cells #[.int .i64 z, .slice A n c] 58)).alloc (.cells #[.int .i64 0, .slice none 0 0] 58) = w1 at *
  refine (rfat_any H1.out z s hl).mono ?_
  rintro e w2 ⟨x, rfl, hx, lx, hb⟩
  obtain ⟨xf, xq, xv⟩ := x
  obtain ⟨B, cx, hxv⟩ := lx.shape
  simp only at hxv
  subst hxv
  have HX := Lib.hid hx
  have LX := Lib.hid lx
  have B2 := Lib.hid (B0.out.call hb)
  have H2 := Lib.hid (H1.out.below hb)
  have BK2 := Lib.hid (BK.out.below hb)
  have BR2 := Lib.hid (BR.out.below hb)
  have SZ2 : Hid (w.heap.size + 1 + 1 ≤ w2.heap.size) := Lib.hid (by have := hb.size; rw [SZ.out] at this; exact this)
  clear hx lx hb H1 BK BR B0 SZ
  dsimp only
  have FT : t.fol s = xf := by unfold Tbl.fol; rw [← HX.out]; rfl
  rcases xf with _ | _
  · have B3 := Lib.hid (B2.out.alloc (.cells #[.int .i64 s, .bool false, .slice B xq.length cx] 74))
    have BK3 := Lib.hid (BK2.out.alloc (.cells #[.int .i64 s, .bool false, .slice B xq.length cx] 74))
    have BR3 := Lib.hid (BR2.out.alloc (.cells #[.int .i64 s, .bool false, .slice B xq.length cx] 74))
    have BX3 := Lib.hid (Blk.new w2 74 #[.int .i64 s, .bool false, .slice B xq.length cx])
    have D3 := Lib.hid ((Bl.start w2).alloc (.cells #[.int .i64 s, .bool false, .slice B xq.length cx] 74))
    have FT' := Lib.hid FT
    clear FT BK2 BR2
    obtain ⟨k0, k1, _, _⟩ := blk2 BK3.out
    obtain ⟨r0, r1, f0, f1⟩ := blk2 BR3.out
    obtain ⟨x0, x1, x2, _, fx, _⟩ := blk3 BX3.out
    go_wp2_with fail
    generalize w2.alloc (.cells #[.int .i64 s, .bool false, .slice B xq.length cx] 74) = w3 at *
    refine (rffollowing_any (H2.out.below D3.out.1) z hl).mono ?_
    rintro e w4 ⟨rfl, hb4⟩
    have BK4 := Lib.hid (BK3.out.below hb4)
    have BR4 := Lib.hid (BR3.out.below hb4)
    have BX4 := Lib.hid (BX3.out.below hb4)
    have B4 := Lib.hid (B3.out.call hb4)
    have D4 := Lib.hid (D3.out.call hb4)
    clear hb4 k0 k1 r0 r1 f0 f1 x0 x1 x2 fx BK3 BR3 BX3 B3 D3
    obtain ⟨k0, k1, _, _⟩ := blk2 BK4.out
    obtain ⟨r0, r1, f0, f1⟩ := blk2 BR4.out
    obtain ⟨x0, x1, x2, _, fx, _⟩ := blk3 BX4.out
    by_cases h4 : folls t.rows = 4
    · have ES : Hid (t.sub s = (t, false)) := Lib.hid (by unfold Tbl.sub; rw [if_pos (.inr h4)])
      have y4 : (4 : Int) ≤ (folls t.rows : Int) := by omega
      clear h4
      go_wp2_with fail
      obtain ⟨q1, q2, q3⟩ := set2 BR4.out B4.out (Nat.le_succ _) (.int .i64 z) (.slice A n c)
      exact bodyPost_ret (results_f2 rfl _ _ _ rfl rfl q1) rfl ⟨.slice A n c, by rw [ES.out]; rfl, by rw [ES.out]; exact H0.out.below q2.1, q2.1⟩
    · have ES : Hid (t.sub s = (t.put s ⟨true, (t.row s).q⟩, true)) := Lib.hid (by unfold Tbl.sub; rw [if_neg (by rw [FT'.out]; simpa using h4)])
      have y4 : ¬ (4 : Int) ≤ (folls t.rows : Int) := by omega
      have B5 := Lib.hid (B4.out.setCell (p := ⟨w2.heap.size, 1, none⟩) (by have := SZ2.out; show w.heap.size ≤ w2.heap.size; omega) (.bool true))
      have D5 := Lib.hid (D4.out.setCell (p := ⟨w2.heap.size, 1, none⟩) (Nat.le_refl _) (.bool true))
      have BK5 := Lib.hid (BK4.out.other (p := ⟨w2.heap.size, 1, none⟩) (by have := SZ2.out; show w.heap.size ≠ w2.heap.size; omega) (.bool true))
      have BR5 := Lib.hid (BR4.out.other (p := ⟨w2.heap.size, 1, none⟩) (by have := SZ2.out; show w.heap.size + 1 ≠ w2.heap.size; omega) (.bool true))
      have BX5 : Hid (Blk (w4.setCell ⟨w2.heap.size, 1, none⟩ (.bool true)) w2.heap.size 74 #[.int .i64 s, .bool true, .slice B xq.length cx]) := Lib.hid (by have := BX4.out.set 1 (.bool true); simpa using this)
      clear h4
      go_upto_region 5 with (fail)
      generalize w4.setCell ⟨w2.heap.size, 1, none⟩ (.bool true) = w5 at *
      clear k0 k1 r0 r1 f0 f1 x0 x1 x2 fx
      obtain ⟨k0, k1, _, _⟩ := blk2 BK5.out
      obtain ⟨x0, x1, x2, _, _, _⟩ := blk3 BX5.out
      have LX5 : Hid (Lx (fun b => N b ∧ b ≠ w.heap.size + 1) w5 (⟨true, xq, .slice B xq.length cx⟩ : Rx)) := Lib.hid ⟨(LX.out.below D5.out.1).sl, (LX.out.below D5.out.1).chs⟩
      go_wp2_with fail
      refine (rfwith_any (x := ⟨true, xq, .slice B xq.length cx⟩) (fun k hk => ⟨HN.out k (by have := B5.out.2; omega), by have := D5.out.2; have := SZ2.out; omega⟩) (H2.out.below D5.out.1) OK.out.up LX5.out z s hl).mono ?_
      rintro e w6 ⟨v6, rfl, h6, hb6⟩
      have BR6 := Lib.hid (BR5.out.below hb6)
      have B6 := Lib.hid (B5.out.call hb6)
      have H6 := Lib.hid h6
      obtain ⟨A6, n6, c6, rfl⟩ := h6.shape
      clear h6 hb6 k0 k1 x0 x1 x2
      obtain ⟨r0, r1, f0, f1⟩ := blk2 BR6.out
      go_wp2_with fail
      obtain ⟨q1, q2, q3⟩ := set2 BR6.out B6.out (Nat.le_succ _) (.int .i64 z) (.slice A6 n6 c6)
      refine bodyPost_ret (results_f2 rfl _ _ _ rfl rfl q1) rfl ⟨.slice A6 n6 c6, by rw [ES.out]; rfl, ?_, q2.1⟩
      rw [ES.out]
      have e1 : withF t s (Rx.row ⟨true, xq, .slice B xq.length cx⟩) = t.put s ⟨true, (t.row s).q⟩ := by
        rw [← HX.out]; exact withF_on _ _ _
      have h7 := H6.out
      rw [e1] at h7
      exact h7.set BR6.out (by decide) q3
  · have B3 := Lib.hid (B2.out.alloc (.cells #[.int .i64 s, .bool true, .slice B xq.length cx] 74))
    have BK3 := Lib.hid (BK2.out.alloc (.cells #[.int .i64 s, .bool true, .slice B xq.length cx] 74))
    have BR3 := Lib.hid (BR2.out.alloc (.cells #[.int .i64 s, .bool true, .slice B xq.length cx] 74))
    have ES : Hid (t.sub s = (t, false)) := Lib.hid (by unfold Tbl.sub; rw [if_pos (.inl FT)])
    clear FT BK2 BR2
    obtain ⟨k0, k1, _, _⟩ := blk2 BK3.out
    obtain ⟨r0, r1, f0, f1⟩ := blk2 BR3.out
    go_wp2_with fail
    obtain ⟨q1, q2, q3⟩ := set2 BR3.out B3.out (Nat.le_succ _) (.int .i64 z) (.slice A n c)
    exact bodyPost_ret (results_f2 rfl _ _ _ rfl rfl q1) rfl ⟨.slice A n c, by rw [ES.out]; rfl, by rw [ES.out]; exact H0.out.below q2.1, q2.1⟩
end Go.Proofs.Ytjladlniilacjaa
