/-
  guillochelaw18.by: Pop, as the document says (written by makers/feeby3.py).
-/
import Derived.Test.YtjladlniilacjaaFeeBy
namespace Go.Proofs.Ytjladlniilacjaa
open Go.RowKit Go.Proofs.Fee
set_option linter.unusedVariables false
set_option linter.unusedSimpArgs false
set_option maxRecDepth 100000 in
set_option maxHeartbeats 1000000 in
theorem by3_any {N : Nat → Prop} {w : World} {v : Value} {t : Tbl} (hN : ∀ k, w.heap.size ≤ k → N k) (h : Rf N w v t) (ok : t.Ok) (hf : t.Full) (z : Int) (a : Deed) (hl : t.rows.length ≤ 1000) (hk : a.k = 3) :
    Calls Try.prog 30 #[.agg #[.int .i64 z, v], .agg #[.int .i64 a.k, .int .i64 a.s, .int .i64 a.b, .string a.r]] w fun e w' => ∃ v' vl vc, e = .returned (.tuple #[.agg #[.int .i64 z, v'], .agg (toldF (t.does a).2 vl vc)]) ∧ Rf N w' v' (t.does a).1 ∧ Below w.heap.size w w' ∧ w'.ownsRow w.heap.size 3 1 vl (t.does a).2.l.length ((t.does a).2.l.map (Value.int .i64)) ∧ Chs w' vc (t.does a).2.x.chs := by
  obtain ⟨ak, sn, bk, rt⟩ := a
  simp only at hk
  subst hk
  simp only
  have ED : Hid (t.does ⟨3, sn, bk, rt⟩ = ((t.pop sn).1, ⟨(t.pop sn).2.2, 0, [], (t.pop sn).2.1⟩)) := Lib.hid (by unfold Tbl.does; rw [if_neg (show ¬ (3 : Int) = 0 by decide), if_neg (show ¬ (3 : Int) = 1 by decide), if_neg (show ¬ (3 : Int) = 2 by decide), if_pos rfl])
  obtain ⟨A, n, c, rfl⟩ := h.shape
  have b0 := (((((Bl.start w).alloc (.cells #[.int .i64 z, .slice A n c] 58)).alloc (.cells #[.int .i64 3, .int .i64 sn, .int .i64 bk, .string rt] 68)).alloc (.cells #[.int .i64 0, .slice none 0 0] 58)).alloc (.cells #[.bool false, .int .i64 0, .slice none 0 0, .int .i64 0, .int .i64 0, .int .i64 0, .string ⟨#[]⟩, .slice none 0 0] 65)).alloc (.cells #[.bool false, .int .i64 0, .slice none 0 0, .int .i64 0, .int .i64 0, .int .i64 0, .string ⟨#[]⟩, .slice none 0 0] 65)
  have HN := Lib.hid hN
  have OK := Lib.hid ok
  have H1 := Lib.hid ((((h.but (Below.refl _ _) (r := w.heap.size + 1 + 1 + 1) (by omega)).but (Below.refl _ _) (r := w.heap.size + 1 + 1) (by omega)).but (Below.refl _ _) (r := w.heap.size + 1 + 1 + 1 + 1) (by omega)).but b0.1 (r := w.heap.size) (by omega))
  have BK := Lib.hid (((((Blk.new w 58 #[.int .i64 z, .slice A n c]).alloc (.cells #[.int .i64 3, .int .i64 sn, .int .i64 bk, .string rt] 68)).alloc (.cells #[.int .i64 0, .slice none 0 0] 58)).alloc (.cells #[.bool false, .int .i64 0, .slice none 0 0, .int .i64 0, .int .i64 0, .int .i64 0, .string ⟨#[]⟩, .slice none 0 0] 65)).alloc (.cells #[.bool false, .int .i64 0, .slice none 0 0, .int .i64 0, .int .i64 0, .int .i64 0, .string ⟨#[]⟩, .slice none 0 0] 65))
  have BA := Lib.hid (by have := (((Blk.new (w.alloc (.cells #[.int .i64 z, .slice A n c] 58)) 68 #[.int .i64 3, .int .i64 sn, .int .i64 bk, .string rt]).alloc (.cells #[.int .i64 0, .slice none 0 0] 58)).alloc (.cells #[.bool false, .int .i64 0, .slice none 0 0, .int .i64 0, .int .i64 0, .int .i64 0, .string ⟨#[]⟩, .slice none 0 0] 65)).alloc (.cells #[.bool false, .int .i64 0, .slice none 0 0, .int .i64 0, .int .i64 0, .int .i64 0, .string ⟨#[]⟩, .slice none 0 0] 65); rwa [World.size_alloc] at this)
  have BR := Lib.hid (by have := ((Blk.new ((w.alloc (.cells #[.int .i64 z, .slice A n c] 58)).alloc (.cells #[.int .i64 3, .int .i64 sn, .int .i64 bk, .string rt] 68)) 58 #[.int .i64 0, .slice none 0 0]).alloc (.cells #[.bool false, .int .i64 0, .slice none 0 0, .int .i64 0, .int .i64 0, .int .i64 0, .string ⟨#[]⟩, .slice none 0 0] 65)).alloc (.cells #[.bool false, .int .i64 0, .slice none 0 0, .int .i64 0, .int .i64 0, .int .i64 0, .string ⟨#[]⟩, .slice none 0 0] 65); rwa [World.size_alloc, World.size_alloc] at this)
  have BU := Lib.hid (by have := (Blk.new (((w.alloc (.cells #[.int .i64 z, .slice A n c] 58)).alloc (.cells #[.int .i64 3, .int .i64 sn, .int .i64 bk, .string rt] 68)).alloc (.cells #[.int .i64 0, .slice none 0 0] 58)) 65 #[.bool false, .int .i64 0, .slice none 0 0, .int .i64 0, .int .i64 0, .int .i64 0, .string ⟨#[]⟩, .slice none 0 0]).alloc (.cells #[.bool false, .int .i64 0, .slice none 0 0, .int .i64 0, .int .i64 0, .int .i64 0, .string ⟨#[]⟩, .slice none 0 0] 65); rwa [World.size_alloc, World.size_alloc, World.size_alloc] at this)
  have BT := Lib.hid (by have := Blk.new ((((w.alloc (.cells #[.int .i64 z, .slice A n c] 58)).alloc (.cells #[.int .i64 3, .int .i64 sn, .int .i64 bk, .string rt] 68)).alloc (.cells #[.int .i64 0, .slice none 0 0] 58)).alloc (.cells #[.bool false, .int .i64 0, .slice none 0 0, .int .i64 0, .int .i64 0, .int .i64 0, .string ⟨#[]⟩, .slice none 0 0] 65)) 65 #[.bool false, .int .i64 0, .slice none 0 0, .int .i64 0, .int .i64 0, .int .i64 0, .string ⟨#[]⟩, .slice none 0 0]; rwa [World.size_alloc, World.size_alloc, World.size_alloc, World.size_alloc] at this)
  have B0 := Lib.hid b0
  have SZ : Hid ((((((w.alloc (.cells #[.int .i64 z, .slice A n c] 58)).alloc (.cells #[.int .i64 3, .int .i64 sn, .int .i64 bk, .string rt] 68)).alloc (.cells #[.int .i64 0, .slice none 0 0] 58)).alloc (.cells #[.bool false, .int .i64 0, .slice none 0 0, .int .i64 0, .int .i64 0, .int .i64 0, .string ⟨#[]⟩, .slice none 0 0] 65)).alloc (.cells #[.bool false, .int .i64 0, .slice none 0 0, .int .i64 0, .int .i64 0, .int .i64 0, .string ⟨#[]⟩, .slice none 0 0] 65)).heap.size = w.heap.size + 1 + 1 + 1 + 1 + 1) := Lib.hid (by simp)
  clear h b0 hN ok
  go_enter Try.func30, Try.ntmps30
  obtain ⟨x0, x1, x2, x3⟩ : (((((w.alloc (.cells #[.int .i64 z, .slice A n c] 58)).alloc (.cells #[.int .i64 3, .int .i64 sn, .int .i64 bk, .string rt] 68)).alloc (.cells #[.int .i64 0, .slice none 0 0] 58)).alloc (.cells #[.bool false, .int .i64 0, .slice none 0 0, .int .i64 0, .int .i64 0, .int .i64 0, .string ⟨#[]⟩, .slice none 0 0] 65)).alloc (.cells #[.bool false, .int .i64 0, .slice none 0 0, .int .i64 0, .int .i64 0, .int .i64 0, .string ⟨#[]⟩, .slice none 0 0] 65)).cell? ⟨w.heap.size + 1, 0, none⟩ = some (.int .i64 3) ∧ (((((w.alloc (.cells #[.int .i64 z, .slice A n c] 58)).alloc (.cells #[.int .i64 3, .int .i64 sn, .int .i64 bk, .string rt] 68)).alloc (.cells #[.int .i64 0, .slice none 0 0] 58)).alloc (.cells #[.bool false, .int .i64 0, .slice none 0 0, .int .i64 0, .int .i64 0, .int .i64 0, .string ⟨#[]⟩, .slice none 0 0] 65)).alloc (.cells #[.bool false, .int .i64 0, .slice none 0 0, .int .i64 0, .int .i64 0, .int .i64 0, .string ⟨#[]⟩, .slice none 0 0] 65)).cell? ⟨w.heap.size + 1, 1, none⟩ = some (.int .i64 sn) ∧ (((((w.alloc (.cells #[.int .i64 z, .slice A n c] 58)).alloc (.cells #[.int .i64 3, .int .i64 sn, .int .i64 bk, .string rt] 68)).alloc (.cells #[.int .i64 0, .slice none 0 0] 58)).alloc (.cells #[.bool false, .int .i64 0, .slice none 0 0, .int .i64 0, .int .i64 0, .int .i64 0, .string ⟨#[]⟩, .slice none 0 0] 65)).alloc (.cells #[.bool false, .int .i64 0, .slice none 0 0, .int .i64 0, .int .i64 0, .int .i64 0, .string ⟨#[]⟩, .slice none 0 0] 65)).cell? ⟨w.heap.size + 1, 2, none⟩ = some (.int .i64 bk) ∧ (((((w.alloc (.cells #[.int .i64 z, .slice A n c] 58)).alloc (.cells #[.int .i64 3, .int .i64 sn, .int .i64 bk, .string rt] 68)).alloc (.cells #[.int .i64 0, .slice none 0 0] 58)).alloc (.cells #[.bool false, .int .i64 0, .slice none 0 0, .int .i64 0, .int .i64 0, .int .i64 0, .string ⟨#[]⟩, .slice none 0 0] 65)).alloc (.cells #[.bool false, .int .i64 0, .slice none 0 0, .int .i64 0, .int .i64 0, .int .i64 0, .string ⟨#[]⟩, .slice none 0 0] 65)).cell? ⟨w.heap.size + 1, 3, none⟩ = some (.string rt) := ⟨by rw [BA.out.cell]; rfl, by rw [BA.out.cell]; rfl, by rw [BA.out.cell]; rfl, by rw [BA.out.cell]; rfl⟩
  obtain ⟨k0, k1, -, -⟩ := blk2 BK.out
  go_wp2_with fail
  generalize ((((w.alloc (.cells #[.int .i64 z, .slice A n c] 58)).alloc (.cells #[.int .i64 3, .int .i64 sn, .int .i64 bk, .string rt] 68)).alloc (.cells #[.int .i64 0, .slice none 0 0] 58)).alloc (.cells #[.bool false, .int .i64 0, .slice none 0 0, .int .i64 0, .int .i64 0, .int .i64 0, .string ⟨#[]⟩, .slice none 0 0] 65)).alloc (.cells #[.bool false, .int .i64 0, .slice none 0 0, .int .i64 0, .int .i64 0, .int .i64 0, .string ⟨#[]⟩, .slice none 0 0] 65) = w1 at *
  refine (rfpop_any (fun k hk => ⟨⟨⟨⟨HN.out k (by have := B0.out.2; omega), by have := SZ.out; omega⟩, by have := SZ.out; omega⟩, by have := SZ.out; omega⟩, by have := SZ.out; omega⟩) H1.out OK.out z sn hl).mono ?_
  rintro e w2 ⟨v2, A7, n7, c7, rfl, h2, hch, hb⟩
  have HC2 := Lib.hid hch
  obtain ⟨nt, hnt⟩ : ∃ x, x = (t.pop sn).2.1 := ⟨_, rfl⟩
  obtain ⟨bt, hbt⟩ : ∃ x, x = (t.pop sn).2.2 := ⟨_, rfl⟩
  rw [← hnt, ← hbt]
  rw [← hnt] at HC2
  rw [← hnt, ← hbt] at ED
  clear hnt hbt hch
  obtain ⟨A2, n2, c2, rfl⟩ := h2.shape
  have H2 := Lib.hid h2
  have B2 := Lib.hid (B0.out.call hb)
  have BK2 := Lib.hid (BK.out.below hb)
  have BR2 := Lib.hid (BR.out.below hb)
  have BU2 := Lib.hid (BU.out.below hb)
  have BT2 := Lib.hid (BT.out.below hb)
  clear h2 hb H1 B0 BK BA BR BU BT k0 k1 x0 x1 x2 x3
  obtain ⟨k0, k1, f0, f1⟩ := blk2 BK2.out
  obtain ⟨⟨m0, m1, m2, m3, m4, m5, m6, m7⟩, fm0, -, -, fm3, fm4, fm5, fm6, fm7⟩ := blk8 BT2.out
  go_upto_region 12 with (fail)
  obtain ⟨u1, u2, u3⟩ := set2 BK2.out B2.out (Nat.le_refl _) (.int .i64 z) (.slice A2 n2 c2)
  have F5 : Far (fun i => i = w.heap.size + 1 + 1 + 1 + 1) ((w2.setCell ⟨w.heap.size, 0, none⟩ (.int .i64 z)).setCell ⟨w.heap.size, 1, none⟩ (.slice A2 n2 c2)) ((((((((w2.setCell ⟨w.heap.size, 0, none⟩ (.int .i64 z)).setCell ⟨w.heap.size, 1, none⟩ (.slice A2 n2 c2)).setCell ⟨w.heap.size + 1 + 1 + 1 + 1, 3, none⟩ (.int .i64 nt.ses)).setCell ⟨w.heap.size + 1 + 1 + 1 + 1, 4, none⟩ (.int .i64 nt.err)).setCell ⟨w.heap.size + 1 + 1 + 1 + 1, 5, none⟩ (.int .i64 nt.block)).setCell ⟨w.heap.size + 1 + 1 + 1 + 1, 6, none⟩ (.string nt.root)).setCell ⟨w.heap.size + 1 + 1 + 1 + 1, 7, none⟩ (.slice A7 n7 c7)).setCell ⟨w.heap.size + 1 + 1 + 1 + 1, 0, none⟩ (.bool bt)) := ((((((Far.refl (fun i => i = w.heap.size + 1 + 1 + 1 + 1) _).setCell (p := ⟨w.heap.size + 1 + 1 + 1 + 1, 3, none⟩) (fun _ => rfl) _).setCell (p := ⟨w.heap.size + 1 + 1 + 1 + 1, 4, none⟩) (fun _ => rfl) _).setCell (p := ⟨w.heap.size + 1 + 1 + 1 + 1, 5, none⟩) (fun _ => rfl) _).setCell (p := ⟨w.heap.size + 1 + 1 + 1 + 1, 6, none⟩) (fun _ => rfl) _).setCell (p := ⟨w.heap.size + 1 + 1 + 1 + 1, 7, none⟩) (fun _ => rfl) _).setCell (p := ⟨w.heap.size + 1 + 1 + 1 + 1, 0, none⟩) (fun _ => rfl) _
  have B5 := Lib.hid ((((((u2.setCell (p := ⟨w.heap.size + 1 + 1 + 1 + 1, 3, none⟩) (by show w.heap.size ≤ w.heap.size + 1 + 1 + 1 + 1; omega) (.int .i64 nt.ses)).setCell (p := ⟨w.heap.size + 1 + 1 + 1 + 1, 4, none⟩) (by show w.heap.size ≤ w.heap.size + 1 + 1 + 1 + 1; omega) (.int .i64 nt.err)).setCell (p := ⟨w.heap.size + 1 + 1 + 1 + 1, 5, none⟩) (by show w.heap.size ≤ w.heap.size + 1 + 1 + 1 + 1; omega) (.int .i64 nt.block)).setCell (p := ⟨w.heap.size + 1 + 1 + 1 + 1, 6, none⟩) (by show w.heap.size ≤ w.heap.size + 1 + 1 + 1 + 1; omega) (.string nt.root)).setCell (p := ⟨w.heap.size + 1 + 1 + 1 + 1, 7, none⟩) (by show w.heap.size ≤ w.heap.size + 1 + 1 + 1 + 1; omega) (.slice A7 n7 c7)).setCell (p := ⟨w.heap.size + 1 + 1 + 1 + 1, 0, none⟩) (by show w.heap.size ≤ w.heap.size + 1 + 1 + 1 + 1; omega) (.bool bt))
  have BK5 := Lib.hid (u1.far F5 (by omega))
  have BR5 := Lib.hid ((BR2.out.far u3 (by omega)).far F5 (by omega))
  have BU5 := Lib.hid ((BU2.out.far u3 (by omega)).far F5 (by omega))
  have BT5 : Hid (Blk ((((((((w2.setCell ⟨w.heap.size, 0, none⟩ (.int .i64 z)).setCell ⟨w.heap.size, 1, none⟩ (.slice A2 n2 c2)).setCell ⟨w.heap.size + 1 + 1 + 1 + 1, 3, none⟩ (.int .i64 nt.ses)).setCell ⟨w.heap.size + 1 + 1 + 1 + 1, 4, none⟩ (.int .i64 nt.err)).setCell ⟨w.heap.size + 1 + 1 + 1 + 1, 5, none⟩ (.int .i64 nt.block)).setCell ⟨w.heap.size + 1 + 1 + 1 + 1, 6, none⟩ (.string nt.root)).setCell ⟨w.heap.size + 1 + 1 + 1 + 1, 7, none⟩ (.slice A7 n7 c7)).setCell ⟨w.heap.size + 1 + 1 + 1 + 1, 0, none⟩ (.bool bt)) (w.heap.size + 1 + 1 + 1 + 1) 65 #[.bool bt, .int .i64 0, .slice none 0 0, .int .i64 nt.ses, .int .i64 nt.err, .int .i64 nt.block, .string nt.root, .slice A7 n7 c7]) := Lib.hid (by have := (((((((BT2.out.far u3 (by omega)).set 3 (.int .i64 nt.ses)).set 4 (.int .i64 nt.err)).set 5 (.int .i64 nt.block)).set 6 (.string nt.root)).set 7 (.slice A7 n7 c7)).set 0 (.bool bt)); simpa using this)
  have H5 : Hid (Rf (fun b => (N b ∧ b ≠ w.heap.size + 1 + 1 + 1) ∧ b ≠ w.heap.size + 1 + 1) ((((((((w2.setCell ⟨w.heap.size, 0, none⟩ (.int .i64 z)).setCell ⟨w.heap.size, 1, none⟩ (.slice A2 n2 c2)).setCell ⟨w.heap.size + 1 + 1 + 1 + 1, 3, none⟩ (.int .i64 nt.ses)).setCell ⟨w.heap.size + 1 + 1 + 1 + 1, 4, none⟩ (.int .i64 nt.err)).setCell ⟨w.heap.size + 1 + 1 + 1 + 1, 5, none⟩ (.int .i64 nt.block)).setCell ⟨w.heap.size + 1 + 1 + 1 + 1, 6, none⟩ (.string nt.root)).setCell ⟨w.heap.size + 1 + 1 + 1 + 1, 7, none⟩ (.slice A7 n7 c7)).setCell ⟨w.heap.size + 1 + 1 + 1 + 1, 0, none⟩ (.bool bt)) (.slice A2 n2 c2) (t.pop sn).1) := Lib.hid ((H2.out.set BK2.out (by decide) u3).set (BT2.out.far u3 (by omega)) (by decide) F5)
  have HC5 := Lib.hid ((HC2.out.set BK2.out (by decide) u3).set (BT2.out.far u3 (by omega)) (by decide) F5)
  generalize (((((((w2.setCell ⟨w.heap.size, 0, none⟩ (.int .i64 z)).setCell ⟨w.heap.size, 1, none⟩ (.slice A2 n2 c2)).setCell ⟨w.heap.size + 1 + 1 + 1 + 1, 3, none⟩ (.int .i64 nt.ses)).setCell ⟨w.heap.size + 1 + 1 + 1 + 1, 4, none⟩ (.int .i64 nt.err)).setCell ⟨w.heap.size + 1 + 1 + 1 + 1, 5, none⟩ (.int .i64 nt.block)).setCell ⟨w.heap.size + 1 + 1 + 1 + 1, 6, none⟩ (.string nt.root)).setCell ⟨w.heap.size + 1 + 1 + 1 + 1, 7, none⟩ (.slice A7 n7 c7)).setCell ⟨w.heap.size + 1 + 1 + 1 + 1, 0, none⟩ (.bool bt) = w5 at *
  clear u1 u2 u3 F5 k0 k1 f0 f1 m0 m1 m2 m3 m4 m5 m6 m7 fm0 fm3 fm4 fm5 fm6 fm7 BK2 BR2 BU2 BT2 B2 H2
  obtain ⟨k0, k1, -, -⟩ := blk2 BK5.out
  obtain ⟨r0, r1, fr0, fr1⟩ := blk2 BR5.out
  obtain ⟨⟨y0, y1, y2, y3, y4, y5, y6, y7⟩, g0, g1, g2, g3, g4, g5, g6, g7⟩ := blk8 BU5.out
  obtain ⟨⟨m0, m1, m2, m3, m4, m5, m6, m7⟩, -⟩ := blk8 BT5.out
  go_region
  obtain ⟨u1, u2, u3⟩ := set2 BR5.out B5.out (by omega) (.int .i64 z) (.slice A2 n2 c2)
  obtain ⟨p1, p2, p3⟩ := set8 (BU5.out.far u3 (by omega)) u2 (by omega) (.bool bt) (.int .i64 0) (.slice none 0 0) (.int .i64 nt.ses) (.int .i64 nt.err) (.int .i64 nt.block) (.string nt.root) (.slice A7 n7 c7)
  have U1 := Lib.hid (u1.far p3 (by omega))
  have HR := Lib.hid ((H5.out.set BR5.out (by decide) u3).set (BU5.out.far u3 (by omega)) (by decide) p3)
  have P1 := Lib.hid p1
  have HC := Lib.hid ((HC5.out.set BR5.out (by decide) u3).set (BU5.out.far u3 (by omega)) (by decide) p3)
  have P2 := Lib.hid (p2.drewN 1)
  obtain ⟨W9, hW9⟩ : ∃ W, W = sets8 ((w5.setCell ⟨w.heap.size + 1 + 1, 0, none⟩ (.int .i64 z)).setCell ⟨w.heap.size + 1 + 1, 1, none⟩ (.slice A2 n2 c2)) (w.heap.size + 1 + 1 + 1) (.bool bt) (.int .i64 0) (.slice none 0 0) (.int .i64 nt.ses) (.int .i64 nt.err) (.int .i64 nt.block) (.string nt.root) (.slice A7 n7 c7) := ⟨_, rfl⟩
  rw [← hW9] at U1 HR P1 P2 HC
  unfold sets8 at hW9
  rw [← hW9]
  clear hW9 u1 u2 u3 p1 p2 p3 k0 k1 r0 r1 fr0 fr1 y0 y1 y2 y3 y4 y5 y6 y7 g0 g1 g2 g3 g4 g5 g6 g7 m0 m1 m2 m3 m4 m5 m6 m7
  have U2 : Hid (Blk W9.drew (w.heap.size + 1 + 1) 58 #[.int .i64 z, .slice A2 n2 c2]) := Lib.hid U1.out
  have P3 : Hid (Blk W9.drew (w.heap.size + 1 + 1 + 1) 65 #[.bool bt, .int .i64 0, .slice none 0 0, .int .i64 nt.ses, .int .i64 nt.err, .int .i64 nt.block, .string nt.root, .slice A7 n7 c7]) := Lib.hid P1.out
  have HR2 : Hid (Rf N W9.drew (.slice A2 n2 c2) (t.pop sn).1) := Lib.hid (HR.out.below ((Bl.start W9).drewN 1).1)
  have HC3 : Hid (Chs W9.drew (.slice A7 n7 c7) nt.chs) := Lib.hid (HC.out.below ((Bl.start W9).drewN 1).1)
  unfold Exit.then
  dsimp only
  apply_assumption
  refine wp_ret ?_
  show bodyPost _ _ _ _ _ _
  refine bodyPost_ret (results_by rfl _ _ _ _ rfl rfl U2.out P3.out) rfl ⟨.slice A2 n2 c2, .slice none 0 0, .slice A7 n7 c7, by rw [ED.out]; rfl, ?_, P2.out.1, ?_, ?_⟩
  · rw [ED.out]; exact HR2.out
  · rw [ED.out]; exact ⟨rfl, .inl ⟨rfl, rfl⟩⟩
  · rw [ED.out]; exact HC3.out
end Go.Proofs.Ytjladlniilacjaa
