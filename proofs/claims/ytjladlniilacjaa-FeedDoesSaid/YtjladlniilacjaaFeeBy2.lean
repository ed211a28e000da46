/-
  guillochelaw18.by: Push, as the document says (written by makers/feeby4.py).
-/
import Derived.Test.YtjladlniilacjaaFeeBy
import Derived.Test.YtjladlniilacjaaFeeRf7
namespace Go.Proofs.Ytjladlniilacjaa
open Go.RowKit Go.Proofs.Fee
set_option linter.unusedVariables false
set_option linter.unusedSimpArgs false
set_option maxRecDepth 100000 in
set_option maxHeartbeats 1000000 in
theorem by2_any {N : Nat → Prop} {w : World} {v : Value} {t : Tbl} (hN : ∀ k, w.heap.size ≤ k → N k) (h : Rf N w v t) (ok : t.Ok) (hf : t.Full) (a : Deed) (hl : t.rows.length ≤ 1000) (hk : a.k = 2) :
    Calls Try.prog 30 #[.agg #[.int .i64 (t.room : Int), v], .agg #[.int .i64 a.k, .int .i64 a.s, .int .i64 a.b, .string a.r]] w fun e w' => ∃ v' vl vc, e = .returned (.tuple #[.agg #[.int .i64 (t.room : Int), v'], .agg (toldF (t.does a).2 vl vc)]) ∧ Rf N w' v' (t.does a).1 ∧ Below w.heap.size w w' ∧ w'.ownsRow w.heap.size 3 1 vl (t.does a).2.l.length ((t.does a).2.l.map (Value.int .i64)) ∧ Chs w' vc (t.does a).2.x.chs := by
  obtain ⟨ak, sn, bk, rt⟩ := a
  simp only at hk
  subst hk
  simp only
  obtain ⟨z, hz⟩ : ∃ z : Int, z = (t.room : Int) := ⟨_, rfl⟩
  obtain ⟨tp, htp⟩ : ∃ x, x = (t.push (pushN ⟨2, sn, bk, rt⟩)).1 := ⟨_, rfl⟩
  obtain ⟨lp, hlp⟩ : ∃ x, x = (t.push (pushN ⟨2, sn, bk, rt⟩)).2 := ⟨_, rfl⟩
  have RP : Hid (∀ (N : Nat → Prop) W v A c, (∀ k, W.heap.size ≤ k → N k) → Rf N W v t → Chs W (.slice A 1 c) (pushN ⟨2, sn, bk, rt⟩).chs → Calls Try.prog 57 #[.agg #[.int .i64 z, v], .agg #[.int .i64 77, .int .i64 0, .int .i64 bk, .string rt, .slice A 1 c]] W fun e w' => ∃ v' vl, e = .returned (.tuple #[.agg #[.int .i64 z, v'], vl]) ∧ Rf N w' v' tp ∧ Below W.heap.size W w' ∧ w'.ownsRow W.heap.size 3 1 vl lp.length (lp.map (Value.int .i64))) := Lib.hid (fun N W v A c hN hf hc => by rw [hz, htp, hlp]; exact rfpush_any hN hf ok (pushN ⟨2, sn, bk, rt⟩) A 1 c hc hl)
  have LN : Hid (∀ W, Calls Try.prog 54 #[.agg #[.int .i64 2, .int .i64 sn, .int .i64 bk, .string rt]] W fun e w' => ∃ A c, e = .returned (.agg #[.int .i64 77, .int .i64 0, .int .i64 bk, .string rt, .slice A 1 c]) ∧ Chs w' (.slice A 1 c) (pushN ⟨2, sn, bk, rt⟩).chs ∧ Below W.heap.size W w') := Lib.hid (fun W => (lnotice_any ⟨2, sn, bk, rt⟩ W).mono (fun e w' h => by obtain ⟨A, c, h1, h2, h3⟩ := h; exact ⟨A, c, h1, h2, h3⟩))
  rw [← hz]
  have ED : Hid (t.does ⟨2, sn, bk, rt⟩ = (tp, ⟨false, 0, lp, n0⟩)) := Lib.hid (by rw [htp, hlp]; unfold Tbl.does; rw [if_neg (show ¬ (2 : Int) = 0 by decide), if_neg (show ¬ (2 : Int) = 1 by decide), if_pos rfl])
  obtain ⟨A, n, c, rfl⟩ := h.shape
  have b0 := (((((Bl.start w).alloc (.cells #[.int .i64 z, .slice A n c] 58)).alloc (.cells #[.int .i64 2, .int .i64 sn, .int .i64 bk, .string rt] 68)).alloc (.cells #[.int .i64 0, .slice none 0 0] 58)).alloc (.cells #[.bool false, .int .i64 0, .slice none 0 0, .int .i64 0, .int .i64 0, .int .i64 0, .string ⟨#[]⟩, .slice none 0 0] 65)).alloc (.cells #[.bool false, .int .i64 0, .slice none 0 0, .int .i64 0, .int .i64 0, .int .i64 0, .string ⟨#[]⟩, .slice none 0 0] 65)
  have HN := Lib.hid hN
  have OK := Lib.hid ok
  have H1 := Lib.hid ((((h.but (Below.refl _ _) (r := w.heap.size + 1 + 1 + 1) (by omega)).but (Below.refl _ _) (r := w.heap.size + 1 + 1) (by omega)).but (Below.refl _ _) (r := w.heap.size + 1 + 1 + 1 + 1) (by omega)).but b0.1 (r := w.heap.size) (by omega))
  have BK := Lib.hid (((((Blk.new w 58 #[.int .i64 z, .slice A n c]).alloc (.cells #[.int .i64 2, .int .i64 sn, .int .i64 bk, .string rt] 68)).alloc (.cells #[.int .i64 0, .slice none 0 0] 58)).alloc (.cells #[.bool false, .int .i64 0, .slice none 0 0, .int .i64 0, .int .i64 0, .int .i64 0, .string ⟨#[]⟩, .slice none 0 0] 65)).alloc (.cells #[.bool false, .int .i64 0, .slice none 0 0, .int .i64 0, .int .i64 0, .int .i64 0, .string ⟨#[]⟩, .slice none 0 0] 65))
  have BA := Lib.hid (by have := (((Blk.new (w.alloc (.cells #[.int .i64 z, .slice A n c] 58)) 68 #[.int .i64 2, .int .i64 sn, .int .i64 bk, .string rt]).alloc (.cells #[.int .i64 0, .slice none 0 0] 58)).alloc (.cells #[.bool false, .int .i64 0, .slice none 0 0, .int .i64 0, .int .i64 0, .int .i64 0, .string ⟨#[]⟩, .slice none 0 0] 65)).alloc (.cells #[.bool false, .int .i64 0, .slice none 0 0, .int .i64 0, .int .i64 0, .int .i64 0, .string ⟨#[]⟩, .slice none 0 0] 65); rwa [World.size_alloc] at this)
  have BR := Lib.hid (by have := ((Blk.new ((w.alloc (.cells #[.int .i64 z, .slice A n c] 58)).alloc (.cells #[.int .i64 2, .int .i64 sn, .int .i64 bk, .string rt] 68)) 58 #[.int .i64 0, .slice none 0 0]).alloc (.cells #[.bool false, .int .i64 0, .slice none 0 0, .int .i64 0, .int .i64 0, .int .i64 0, .string ⟨#[]⟩, .slice none 0 0] 65)).alloc (.cells #[.bool false, .int .i64 0, .slice none 0 0, .int .i64 0, .int .i64 0, .int .i64 0, .string ⟨#[]⟩, .slice none 0 0] 65); rwa [World.size_alloc, World.size_alloc] at this)
  have BU := Lib.hid (by have := (Blk.new (((w.alloc (.cells #[.int .i64 z, .slice A n c] 58)).alloc (.cells #[.int .i64 2, .int .i64 sn, .int .i64 bk, .string rt] 68)).alloc (.cells #[.int .i64 0, .slice none 0 0] 58)) 65 #[.bool false, .int .i64 0, .slice none 0 0, .int .i64 0, .int .i64 0, .int .i64 0, .string ⟨#[]⟩, .slice none 0 0]).alloc (.cells #[.bool false, .int .i64 0, .slice none 0 0, .int .i64 0, .int .i64 0, .int .i64 0, .string ⟨#[]⟩, .slice none 0 0] 65); rwa [World.size_alloc, World.size_alloc, World.size_alloc] at this)
  have BT := Lib.hid (by have := Blk.new ((((w.alloc (.cells #[.int .i64 z, .slice A n c] 58)).alloc (.cells #[.int .i64 2, .int .i64 sn, .int .i64 bk, .string rt] 68)).alloc (.cells #[.int .i64 0, .slice none 0 0] 58)).alloc (.cells #[.bool false, .int .i64 0, .slice none 0 0, .int .i64 0, .int .i64 0, .int .i64 0, .string ⟨#[]⟩, .slice none 0 0] 65)) 65 #[.bool false, .int .i64 0, .slice none 0 0, .int .i64 0, .int .i64 0, .int .i64 0, .string ⟨#[]⟩, .slice none 0 0]; rwa [World.size_alloc, World.size_alloc, World.size_alloc, World.size_alloc] at this)
  have B0 := Lib.hid b0
  have SZ : Hid ((((((w.alloc (.cells #[.int .i64 z, .slice A n c] 58)).alloc (.cells #[.int .i64 2, .int .i64 sn, .int .i64 bk, .string rt] 68)).alloc (.cells #[.int .i64 0, .slice none 0 0] 58)).alloc (.cells #[.bool false, .int .i64 0, .slice none 0 0, .int .i64 0, .int .i64 0, .int .i64 0, .string ⟨#[]⟩, .slice none 0 0] 65)).alloc (.cells #[.bool false, .int .i64 0, .slice none 0 0, .int .i64 0, .int .i64 0, .int .i64 0, .string ⟨#[]⟩, .slice none 0 0] 65)).heap.size = w.heap.size + 1 + 1 + 1 + 1 + 1) := Lib.hid (by simp)
  clear h b0 hN ok
  go_enter Try.func30, Try.ntmps30
  obtain ⟨x0, x1, x2, x3⟩ : (((((w.alloc (.cells #[.int .i64 z, .slice A n c] 58)).alloc (.cells #[.int .i64 2, .int .i64 sn, .int .i64 bk, .string rt] 68)).alloc (.cells #[.int .i64 0, .slice none 0 0] 58)).alloc (.cells #[.bool false, .int .i64 0, .slice none 0 0, .int .i64 0, .int .i64 0, .int .i64 0, .string ⟨#[]⟩, .slice none 0 0] 65)).alloc (.cells #[.bool false, .int .i64 0, .slice none 0 0, .int .i64 0, .int .i64 0, .int .i64 0, .string ⟨#[]⟩, .slice none 0 0] 65)).cell? ⟨w.heap.size + 1, 0, none⟩ = some (.int .i64 2) ∧ (((((w.alloc (.cells #[.int .i64 z, .slice A n c] 58)).alloc (.cells #[.int .i64 2, .int .i64 sn, .int .i64 bk, .string rt] 68)).alloc (.cells #[.int .i64 0, .slice none 0 0] 58)).alloc (.cells #[.bool false, .int .i64 0, .slice none 0 0, .int .i64 0, .int .i64 0, .int .i64 0, .string ⟨#[]⟩, .slice none 0 0] 65)).alloc (.cells #[.bool false, .int .i64 0, .slice none 0 0, .int .i64 0, .int .i64 0, .int .i64 0, .string ⟨#[]⟩, .slice none 0 0] 65)).cell? ⟨w.heap.size + 1, 1, none⟩ = some (.int .i64 sn) ∧ (((((w.alloc (.cells #[.int .i64 z, .slice A n c] 58)).alloc (.cells #[.int .i64 2, .int .i64 sn, .int .i64 bk, .string rt] 68)).alloc (.cells #[.int .i64 0, .slice none 0 0] 58)).alloc (.cells #[.bool false, .int .i64 0, .slice none 0 0, .int .i64 0, .int .i64 0, .int .i64 0, .string ⟨#[]⟩, .slice none 0 0] 65)).alloc (.cells #[.bool false, .int .i64 0, .slice none 0 0, .int .i64 0, .int .i64 0, .int .i64 0, .string ⟨#[]⟩, .slice none 0 0] 65)).cell? ⟨w.heap.size + 1, 2, none⟩ = some (.int .i64 bk) ∧ (((((w.alloc (.cells #[.int .i64 z, .slice A n c] 58)).alloc (.cells #[.int .i64 2, .int .i64 sn, .int .i64 bk, .string rt] 68)).alloc (.cells #[.int .i64 0, .slice none 0 0] 58)).alloc (.cells #[.bool false, .int .i64 0, .slice none 0 0, .int .i64 0, .int .i64 0, .int .i64 0, .string ⟨#[]⟩, .slice none 0 0] 65)).alloc (.cells #[.bool false, .int .i64 0, .slice none 0 0, .int .i64 0, .int .i64 0, .int .i64 0, .string ⟨#[]⟩, .slice none 0 0] 65)).cell? ⟨w.heap.size + 1, 3, none⟩ = some (.string rt) := ⟨by rw [BA.out.cell]; rfl, by rw [BA.out.cell]; rfl, by rw [BA.out.cell]; rfl, by rw [BA.out.cell]; rfl⟩
  obtain ⟨k0, k1, -, -⟩ := blk2 BK.out
  clear htp hlp hz
  go_upto_region 9 with (fail)
  generalize ((((w.alloc (.cells #[.int .i64 z, .slice A n c] 58)).alloc (.cells #[.int .i64 2, .int .i64 sn, .int .i64 bk, .string rt] 68)).alloc (.cells #[.int .i64 0, .slice none 0 0] 58)).alloc (.cells #[.bool false, .int .i64 0, .slice none 0 0, .int .i64 0, .int .i64 0, .int .i64 0, .string ⟨#[]⟩, .slice none 0 0] 65)).alloc (.cells #[.bool false, .int .i64 0, .slice none 0 0, .int .i64 0, .int .i64 0, .int .i64 0, .string ⟨#[]⟩, .slice none 0 0] 65) = w1 at *
  have LNd := Lib.hid (LN.out w1.drew)
  have H1d : Hid (Rf (fun b => (((N b ∧ b ≠ w.heap.size + 1 + 1 + 1) ∧ b ≠ w.heap.size + 1 + 1) ∧ b ≠ w.heap.size + 1 + 1 + 1 + 1) ∧ b ≠ w.heap.size) w1.drew (.slice A n c) t) := Lib.hid (H1.out.below ((Bl.start w1).drewN 1).1)
  have HNN : Hid (∀ W : World, w1.heap.size ≤ W.heap.size → ∀ k, W.heap.size ≤ k → (((N k ∧ k ≠ w.heap.size + 1 + 1 + 1) ∧ k ≠ w.heap.size + 1 + 1) ∧ k ≠ w.heap.size + 1 + 1 + 1 + 1) ∧ k ≠ w.heap.size) := Lib.hid (fun W hW k hk => ⟨⟨⟨⟨HN.out k (by have := SZ.out; omega), by have := SZ.out; omega⟩, by have := SZ.out; omega⟩, by have := SZ.out; omega⟩, by have := SZ.out; omega⟩)
  go_region_with (first | (go_at_call 54; (with_reducible refine LNd.out.mono ?_); rintro e w2 ⟨A7, c7, rfl, hch, hb⟩; (have HC2 := Lib.hid hch); (have SZ2 := Lib.hid (show w1.heap.size ≤ w2.heap.size from hb.size)); (have BQ2 := Lib.hid ((Lib.hid B0.out.drew).out.call hb)); (have BK2 := Lib.hid ((show Blk w1.drew _ _ _ from BK.out).below hb)); (have BR2 := Lib.hid ((show Blk w1.drew _ _ _ from BR.out).below hb)); (have BU2 := Lib.hid ((show Blk w1.drew _ _ _ from BU.out).below hb)); (have BT2 := Lib.hid ((show Blk w1.drew _ _ _ from BT.out).below hb)); (have H2 := Lib.hid (H1d.out.below hb)); (have RP2 := Lib.hid (RP.out _ w2 (.slice A n c) A7 c7 (HNN.out w2 SZ2.out) H2.out HC2.out)); clear hch hb; (obtain ⟨kk0, kk1, -, -⟩ := blk2 BK2.out)) | (go_at_call 57; (with_reducible refine RP2.out.mono ?_); rintro e w3 ⟨v3, vl, rfl, h3, hb3, ho3⟩; (obtain ⟨A2, n2, c2, hv3⟩ := h3.shape); subst hv3; (obtain ⟨Al, cl, hvl⟩ := own_shape ho3); subst hvl; (have H3 := Lib.hid h3); (have OL3 := Lib.hid ho3); (have BQ3 := Lib.hid (BQ2.out.call hb3)); (have BK3 := Lib.hid (BK2.out.below hb3)); (have BR3 := Lib.hid (BR2.out.below hb3)); (have BU3 := Lib.hid (BU2.out.below hb3)); (have BT3 := Lib.hid (BT2.out.below hb3)); clear h3 hb3 ho3; (obtain ⟨q0, q1, f0, f1⟩ := blk2 BK3.out); (obtain ⟨⟨m0, m1, m2, m3, m4, m5, m6, m7⟩, -, -, fm2, -, -, -, -, -⟩ := blk8 BT3.out)))
  all_goals
    clear k0 k1 x0 x1 x2 x3 kk0 kk1 BK BA BR BU BT H1 H1d LNd RP2 BK2 BR2 BU2 BT2 H2
    go_upto_region 12 with (fail)
    obtain ⟨u1, u2, u3⟩ := set2 BK3.out BQ3.out (Nat.le_refl _) (.int .i64 z) (.slice A2 n2 c2)
    have F5 : Far (fun i => i = w.heap.size + 1 + 1 + 1 + 1) ((w3.setCell ⟨w.heap.size, 0, none⟩ (.int .i64 z)).setCell ⟨w.heap.size, 1, none⟩ (.slice A2 n2 c2)) (((w3.setCell ⟨w.heap.size, 0, none⟩ (.int .i64 z)).setCell ⟨w.heap.size, 1, none⟩ (.slice A2 n2 c2)).setCell ⟨w.heap.size + 1 + 1 + 1 + 1, 2, none⟩ (.slice Al lp.length cl)) := (Far.refl (fun i => i = w.heap.size + 1 + 1 + 1 + 1) _).setCell (p := ⟨w.heap.size + 1 + 1 + 1 + 1, 2, none⟩) (fun _ => rfl) _
    have B5 := Lib.hid (u2.setCell (p := ⟨w.heap.size + 1 + 1 + 1 + 1, 2, none⟩) (by show w.heap.size ≤ w.heap.size + 1 + 1 + 1 + 1; omega) (.slice Al lp.length cl))
    have BK5 := Lib.hid (u1.far F5 (by omega))
    have BR5 := Lib.hid ((BR3.out.far u3 (by omega)).far F5 (by omega))
    have BU5 := Lib.hid ((BU3.out.far u3 (by omega)).far F5 (by omega))
    have BT5 : Hid (Blk (((w3.setCell ⟨w.heap.size, 0, none⟩ (.int .i64 z)).setCell ⟨w.heap.size, 1, none⟩ (.slice A2 n2 c2)).setCell ⟨w.heap.size + 1 + 1 + 1 + 1, 2, none⟩ (.slice Al lp.length cl)) (w.heap.size + 1 + 1 + 1 + 1) 65 #[.bool false, .int .i64 0, .slice Al lp.length cl, .int .i64 0, .int .i64 0, .int .i64 0, .string ⟨#[]⟩, .slice none 0 0]) := Lib.hid (by have := (BT3.out.far u3 (by omega)).set 2 (.slice Al lp.length cl); simpa using this)
    have H5 : Hid (Rf (fun b => (N b ∧ b ≠ w.heap.size + 1 + 1 + 1) ∧ b ≠ w.heap.size + 1 + 1) (((w3.setCell ⟨w.heap.size, 0, none⟩ (.int .i64 z)).setCell ⟨w.heap.size, 1, none⟩ (.slice A2 n2 c2)).setCell ⟨w.heap.size + 1 + 1 + 1 + 1, 2, none⟩ (.slice Al lp.length cl)) (.slice A2 n2 c2) tp) := Lib.hid ((H3.out.set BK3.out (by decide) u3).set (BT3.out.far u3 (by omega)) (by decide) F5)
    have OL5 := Lib.hid (own_far (own_far OL3.out u3 (fun b hb e => by have := (OL3.out.lt b hb).1; have := SZ2.out; have := SZ.out; omega)) F5 (fun b hb e => by have := (OL3.out.lt b hb).1; have := SZ2.out; have := SZ.out; omega))
    generalize ((w3.setCell ⟨w.heap.size, 0, none⟩ (.int .i64 z)).setCell ⟨w.heap.size, 1, none⟩ (.slice A2 n2 c2)).setCell ⟨w.heap.size + 1 + 1 + 1 + 1, 2, none⟩ (.slice Al lp.length cl) = w5 at *
    clear u1 u2 u3 F5 q0 q1 f0 f1 m0 m1 m2 m3 m4 m5 m6 m7 fm2 BK3 BR3 BU3 BT3 BQ3 H3
    obtain ⟨k0, k1, -, -⟩ := blk2 BK5.out
    obtain ⟨r0, r1, fr0, fr1⟩ := blk2 BR5.out
    obtain ⟨⟨y0, y1, y2, y3, y4, y5, y6, y7⟩, g0, g1, g2, g3, g4, g5, g6, g7⟩ := blk8 BU5.out
    obtain ⟨⟨m0, m1, m2, m3, m4, m5, m6, m7⟩, -⟩ := blk8 BT5.out
    go_region
    obtain ⟨u1, u2, u3⟩ := set2 BR5.out B5.out (by omega) (.int .i64 z) (.slice A2 n2 c2)
    obtain ⟨p1, p2, p3⟩ := set8 (BU5.out.far u3 (by omega)) u2 (by omega) (.bool false) (.int .i64 0) (.slice Al lp.length cl) (.int .i64 0) (.int .i64 0) (.int .i64 0) (.string ⟨#[]⟩) (.slice none 0 0)
    have U1 := Lib.hid (u1.far p3 (by omega))
    have HR := Lib.hid ((H5.out.set BR5.out (by decide) u3).set (BU5.out.far u3 (by omega)) (by decide) p3)
    have P1 := Lib.hid p1
    have OL := Lib.hid (own_far (own_far OL5.out u3 (fun b hb e => by have := (OL5.out.lt b hb).1; have := SZ2.out; have := SZ.out; omega)) p3 (fun b hb e => by have := (OL5.out.lt b hb).1; have := SZ2.out; have := SZ.out; omega))
    have P2 := Lib.hid (p2.drewN 1)
    obtain ⟨W9, hW9⟩ : ∃ W, W = sets8 ((w5.setCell ⟨w.heap.size + 1 + 1, 0, none⟩ (.int .i64 z)).setCell ⟨w.heap.size + 1 + 1, 1, none⟩ (.slice A2 n2 c2)) (w.heap.size + 1 + 1 + 1) (.bool false) (.int .i64 0) (.slice Al lp.length cl) (.int .i64 0) (.int .i64 0) (.int .i64 0) (.string ⟨#[]⟩) (.slice none 0 0) := ⟨_, rfl⟩
    rw [← hW9] at U1 HR P1 P2 OL
    unfold sets8 at hW9
    rw [← hW9]
    clear hW9 u1 u2 u3 p1 p2 p3 k0 k1 r0 r1 fr0 fr1 y0 y1 y2 y3 y4 y5 y6 y7 g0 g1 g2 g3 g4 g5 g6 g7 m0 m1 m2 m3 m4 m5 m6 m7
    have U2 : Hid (Blk W9.drew (w.heap.size + 1 + 1) 58 #[.int .i64 z, .slice A2 n2 c2]) := Lib.hid U1.out
    have P3 : Hid (Blk W9.drew (w.heap.size + 1 + 1 + 1) 65 #[.bool false, .int .i64 0, .slice Al lp.length cl, .int .i64 0, .int .i64 0, .int .i64 0, .string ⟨#[]⟩, .slice none 0 0]) := Lib.hid P1.out
    have HR2 : Hid (Rf N W9.drew (.slice A2 n2 c2) tp) := Lib.hid (HR.out.below ((Bl.start W9).drewN 1).1)
    unfold Exit.then
    dsimp only
    apply_assumption
    refine wp_ret ?_
    show bodyPost _ _ _ _ _ _
    refine bodyPost_ret (results_by rfl _ _ _ _ rfl rfl U2.out P3.out) rfl ⟨.slice A2 n2 c2, .slice Al lp.length cl, .slice none 0 0, by rw [ED.out]; rfl, ?_, P2.out.1, ?_, ?_⟩
    · rw [ED.out]; exact HR2.out
    · rw [ED.out]; exact row_monoF (own_drewN OL.out 1) (by have := SZ2.out; have := SZ.out; omega)
    · rw [ED.out]; exact .inl ⟨rfl, rfl⟩
end Go.Proofs.Ytjladlniilacjaa
