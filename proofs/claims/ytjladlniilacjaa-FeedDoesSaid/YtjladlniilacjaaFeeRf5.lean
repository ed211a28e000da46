/-
  The document's answer for feed (guillocheref18): Unsubscribe, Forget (written by makers/feerf5.py).
-/
import Derived.Test.YtjladlniilacjaaFeeRf4
namespace Go.Proofs.Ytjladlniilacjaa
open Go.RowKit Go.Proofs.Fee
set_option linter.unusedVariables false
set_option linter.unusedSimpArgs false
theorem unsub_withF {t : Tbl} (ok : t.Ok) (hf : t.Full) (s : Int) : t.unsub s = (withF t s ⟨false, (t.row s).q⟩, t.fol s) := by
  unfold Tbl.unsub
  cases hF : t.fol s with
  | true => rw [if_pos rfl, withF_tidy ok.up]
  | false =>
    have e : (⟨false, (t.row s).q⟩ : Row) = t.row s := by
      have : (t.row s).fol = false := hF
      rw [← this]
    rw [if_neg Bool.false_ne_true, e, withF_same ok hf]
set_option maxRecDepth 100000 in
set_option maxHeartbeats 1000000 in
theorem rfunsub_any {N : Nat → Prop} {w : World} {v : Value} {t : Tbl} (hN : ∀ k, w.heap.size ≤ k → N k) (h : Rf N w v t) (ok : t.Ok) (hf : t.Full) (z : Int) (s : Int) (hl : t.rows.length ≤ 1000) :
    Calls Try.prog 56 #[.agg #[.int .i64 z, v], .int .i64 s] w fun e w' => ∃ v', e = .returned (.tuple #[.agg #[.int .i64 z, v'], .bool (t.unsub s).2]) ∧ Rf N w' v' (t.unsub s).1 ∧ Below w.heap.size w w' := by
  have ES := Lib.hid (unsub_withF ok hf s)
  obtain ⟨A, n, c, rfl⟩ := h.shape
  have b0 := (((Bl.start w).alloc (.cells #[.int .i64 z, .slice A n c] 58)).alloc (.cells #[.int .i64 0, .slice none 0 0] 58))
  have HN := Lib.hid hN
  have OK := Lib.hid ok
  have H1 := Lib.hid (h.but b0.1 (r := w.heap.size + 1) (by omega))
  have BK := Lib.hid ((Blk.new w 58 #[.int .i64 z, .slice A n c]).alloc (.cells #[.int .i64 0, .slice none 0 0] 58))
  have BR := Lib.hid (by have := Blk.new (w.alloc (.cells #[.int .i64 z, .slice A n c] 58)) 58 #[.int .i64 0, .slice none 0 0]; rwa [World.size_alloc] at this)
  have B0 := Lib.hid b0
  have SZ : Hid (((w.alloc (.cells #[.int .i64 z, .slice A n c] 58)).alloc (.cells #[.int .i64 0, .slice none 0 0] 58)).heap.size = w.heap.size + 1 + 1) := Lib.hid (by simp)
  clear h b0 hN ok
  go_enter Try.func56, Try.ntmps56
  go_wp2_with fail
  generalize (w.alloc (.cells #[.int .i64 z, .slice A n c] 58)).alloc (.cells #[.int .i64 0, .slice none 0 0] 58) = w1 at *
  refine (rfat_any H1.out z s hl).mono ?_
  rintro e w2 ⟨x, rfl, hx, lx, hb⟩
  obtain ⟨xf, xq, xv⟩ := x
  obtain ⟨B, cx, hxv⟩ := lx.shape
  simp only at hxv
  subst hxv
  have HX := Lib.hid hx
  have LX := Lib.hid lx
  have B2 := Lib.hid (B0.out.call hb)
  have H2 := Lib.hid (H1.out.below hb)
  have BK2 := Lib.hid (BK.out.below hb)
  have BR2 := Lib.hid (BR.out.below hb)
  have SZ2 : Hid (w.heap.size + 1 + 1 ≤ w2.heap.size) := Lib.hid (by have := hb.size; rw [SZ.out] at this; exact this)
  clear hx lx hb H1 BK BR B0 SZ
  dsimp only
  have FT : Hid (t.fol s = xf) := Lib.hid (by unfold Tbl.fol; rw [← HX.out]; rfl)
  have B3 := Lib.hid (B2.out.alloc (.cells #[.int .i64 s, .bool xf, .slice B xq.length cx] 74))
  have BK3 := Lib.hid (BK2.out.alloc (.cells #[.int .i64 s, .bool xf, .slice B xq.length cx] 74))
  have BR3 := Lib.hid (BR2.out.alloc (.cells #[.int .i64 s, .bool xf, .slice B xq.length cx] 74))
  have BX3 := Lib.hid (Blk.new w2 74 #[.int .i64 s, .bool xf, .slice B xq.length cx])
  have D3 := Lib.hid ((Bl.start w2).alloc (.cells #[.int .i64 s, .bool xf, .slice B xq.length cx] 74))
  clear BK2 BR2
  obtain ⟨x0, x1, x2, _, fx, _⟩ := blk3 BX3.out
  go_upto_region 2 with (fail)
  generalize w2.alloc (.cells #[.int .i64 s, .bool xf, .slice B xq.length cx] 74) = w3 at *
  have B5 := Lib.hid (B3.out.setCell (p := ⟨w2.heap.size, 1, none⟩) (by have := SZ2.out; show w.heap.size ≤ w2.heap.size; omega) (.bool false))
  have D5 := Lib.hid (D3.out.setCell (p := ⟨w2.heap.size, 1, none⟩) (Nat.le_refl _) (.bool false))
  have BK5 := Lib.hid (BK3.out.other (p := ⟨w2.heap.size, 1, none⟩) (by have := SZ2.out; show w.heap.size ≠ w2.heap.size; omega) (.bool false))
  have BR5 := Lib.hid (BR3.out.other (p := ⟨w2.heap.size, 1, none⟩) (by have := SZ2.out; show w.heap.size + 1 ≠ w2.heap.size; omega) (.bool false))
  have BX5 : Hid (Blk (w3.setCell ⟨w2.heap.size, 1, none⟩ (.bool false)) w2.heap.size 74 #[.int .i64 s, .bool false, .slice B xq.length cx]) := Lib.hid (by have := BX3.out.set 1 (.bool false); simpa using this)
  go_upto_region 4 with (fail)
  generalize w3.setCell ⟨w2.heap.size, 1, none⟩ (.bool false) = w5 at *
  clear x0 x1 x2 fx
  obtain ⟨k0, k1, _, _⟩ := blk2 BK5.out
  obtain ⟨x0, x1, x2, _, _, _⟩ := blk3 BX5.out
  have LX5 : Hid (Lx (fun b => N b ∧ b ≠ w.heap.size + 1) w5 (⟨false, xq, .slice B xq.length cx⟩ : Rx)) := Lib.hid ⟨(LX.out.below D5.out.1).sl, (LX.out.below D5.out.1).chs⟩
  go_wp2_with fail
  refine (rfwith_any (x := ⟨false, xq, .slice B xq.length cx⟩) (fun k hk => ⟨HN.out k (by have := B5.out.2; omega), by have := D5.out.2; have := SZ2.out; omega⟩) (H2.out.below D5.out.1) OK.out.up LX5.out z s hl).mono ?_
  rintro e w6 ⟨v6, rfl, h6, hb6⟩
  have BR6 := Lib.hid (BR5.out.below hb6)
  have B6 := Lib.hid (B5.out.call hb6)
  have H6 := Lib.hid h6
  obtain ⟨A6, n6, c6, rfl⟩ := h6.shape
  clear h6 hb6 k0 k1 x0 x1 x2
  obtain ⟨r0, r1, f0, f1⟩ := blk2 BR6.out
  go_wp2_with fail
  obtain ⟨q1, q2, q3⟩ := set2 BR6.out B6.out (Nat.le_succ _) (.int .i64 z) (.slice A6 n6 c6)
  refine bodyPost_ret (results_f2 rfl _ _ _ rfl rfl q1) rfl ⟨.slice A6 n6 c6, ?_, ?_, q2.1⟩
  · rw [ES.out, FT.out]; rfl
  · rw [ES.out]
    have e1 : (Rx.row ⟨false, xq, .slice B xq.length cx⟩) = ⟨false, (t.row s).q⟩ := by rw [← HX.out]; rfl
    have h7 := H6.out
    rw [e1] at h7
    exact h7.set BR6.out (by decide) q3
set_option maxRecDepth 100000 in
set_option maxHeartbeats 1000000 in
theorem rfforget_any {N : Nat → Prop} {w : World} {v : Value} {t : Tbl} (hN : ∀ k, w.heap.size ≤ k → N k) (h : Rf N w v t) (ok : t.Ok) (z : Int) (s : Int) (hl : t.rows.length ≤ 1000) :
    Calls Try.prog 59 #[.agg #[.int .i64 z, v], .int .i64 s] w fun e w' => ∃ v', e = .returned (.tuple #[.agg #[.int .i64 z, v'], .int .i64 ((t.forget s).2 : Int)]) ∧ Rf N w' v' (t.forget s).1 ∧ Below w.heap.size w w' := by
  obtain ⟨A, n, c, rfl⟩ := h.shape
  have b0 := (((Bl.start w).alloc (.cells #[.int .i64 z, .slice A n c] 58)).alloc (.cells #[.int .i64 0, .slice none 0 0] 58))
  have HN := Lib.hid hN
  have OK := Lib.hid ok
  have H1 := Lib.hid (h.but b0.1 (r := w.heap.size + 1) (by omega))
  have BK := Lib.hid ((Blk.new w 58 #[.int .i64 z, .slice A n c]).alloc (.cells #[.int .i64 0, .slice none 0 0] 58))
  have BR := Lib.hid (by have := Blk.new (w.alloc (.cells #[.int .i64 z, .slice A n c] 58)) 58 #[.int .i64 0, .slice none 0 0]; rwa [World.size_alloc] at this)
  have B0 := Lib.hid b0
  have SZ : Hid (((w.alloc (.cells #[.int .i64 z, .slice A n c] 58)).alloc (.cells #[.int .i64 0, .slice none 0 0] 58)).heap.size = w.heap.size + 1 + 1) := Lib.hid (by simp)
  clear h b0 hN ok
  go_enter Try.func59, Try.ntmps59
  go_wp2_with fail
  generalize (w.alloc (.cells #[.int .i64 z, .slice A n c] 58)).alloc (.cells #[.int .i64 0, .slice none 0 0] 58) = w1 at *
  refine (rfat_any H1.out z s hl).mono ?_
  rintro e w2 ⟨x, rfl, hx, lx, hb⟩
  obtain ⟨xf, xq, xv⟩ := x
  obtain ⟨B, cx, hxv⟩ := lx.shape
  simp only at hxv
  subst hxv
  have HX := Lib.hid hx
  have LX := Lib.hid lx
  have B2 := Lib.hid (B0.out.call hb)
  have H2 := Lib.hid (H1.out.below hb)
  have BK2 := Lib.hid (BK.out.below hb)
  have BR2 := Lib.hid (BR.out.below hb)
  have SZ2 : Hid (w.heap.size + 1 + 1 ≤ w2.heap.size) := Lib.hid (by have := hb.size; rw [SZ.out] at this; exact this)
  clear hx lx hb H1 BK BR B0 SZ
  dsimp only
  have FT : Hid (t.wait s = xq.length) := Lib.hid (by unfold Tbl.wait; rw [← HX.out]; simp [Rx.row])
  obtain ⟨k0, k1, _, _⟩ := blk2 BK2.out
  have FI : ∀ W, (Instr.field 74 (.agg #[.int .i64 s, .bool xf, .slice B xq.length cx]) 2).run Try.prog W = .ok (.slice B xq.length cx) W := fun W => by kernel_rfl
  go_wp2_with fail
  refine (rfwith_any (x := ⟨false, [], .slice none 0 0⟩) (fun k hk => ⟨HN.out k (by have := B2.out.2; omega), by have := SZ2.out; omega⟩) H2.out OK.out.up (Lx.none _ _) z s hl).mono ?_
  rintro e w6 ⟨v6, rfl, h6, hb6⟩
  have BR6 := Lib.hid (BR2.out.below hb6)
  have B6 := Lib.hid (B2.out.call hb6)
  have H6 := Lib.hid h6
  obtain ⟨A6, n6, c6, rfl⟩ := h6.shape
  clear h6 hb6 k0 k1
  obtain ⟨r0, r1, f0, f1⟩ := blk2 BR6.out
  go_wp2_with fail
  obtain ⟨q1, q2, q3⟩ := set2 BR6.out B6.out (Nat.le_succ _) (.int .i64 z) (.slice A6 n6 c6)
  refine bodyPost_ret (results_f2 rfl _ _ _ rfl rfl q1) rfl ⟨.slice A6 n6 c6, ?_, ?_, q2.1⟩
  · show _ = Ending.returned (.tuple #[_, .int .i64 ((t.wait s : Nat) : Int)])
    rw [FT.out]; rfl
  · exact H6.out.set BR6.out (by decide) q3
end Go.Proofs.Ytjladlniilacjaa
