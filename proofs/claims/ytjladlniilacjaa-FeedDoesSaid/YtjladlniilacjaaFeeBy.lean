/-
  guillochelaw18.by: an act, as the document says (written by makers/feeby.py).
-/
import Derived.Test.YtjladlniilacjaaFeeRf6
import Derived.Test.YtjladlniilacjaaFeeFull
namespace Go.Proofs.Ytjladlniilacjaa
open Go.RowKit Go.Proofs.Fee
set_option linter.unusedVariables false
set_option linter.unusedSimpArgs false
theorem isAggTold (w : World) : (isAgg 65).run Try.prog w = .ok true w := by kernel_rfl
theorem cellsTold : Try.prog.cellsOf 65 = 8 := by kernel_rfl
theorem load_told {w : World} {g : Nat} {a0 a1 a2 a3 a4 a5 a6 a7 : Value} (k : Blk w g 65 #[a0, a1, a2, a3, a4, a5, a6, a7]) : (loadCells ⟨g, 0, none⟩ 8).run Try.prog w = .ok #[a0, a1, a2, a3, a4, a5, a6, a7] w := by
  have e : ∀ k, (⟨g, 0, none⟩ : Addr).add k = ⟨g, k, none⟩ := fun k => by rw [Addr.add_mid, Nat.zero_add]
  have c0 : w.cell? ⟨g, 0, none⟩ = some a0 := by rw [k.cell]; rfl
  have c1 : w.cell? ⟨g, 1, none⟩ = some a1 := by rw [k.cell]; rfl
  have c2 : w.cell? ⟨g, 2, none⟩ = some a2 := by rw [k.cell]; rfl
  have c3 : w.cell? ⟨g, 3, none⟩ = some a3 := by rw [k.cell]; rfl
  have c4 : w.cell? ⟨g, 4, none⟩ = some a4 := by rw [k.cell]; rfl
  have c5 : w.cell? ⟨g, 5, none⟩ = some a5 := by rw [k.cell]; rfl
  have c6 : w.cell? ⟨g, 6, none⟩ = some a6 := by rw [k.cell]; rfl
  have c7 : w.cell? ⟨g, 7, none⟩ = some a7 := by rw [k.cell]; rfl
  simp [loadCells, loadCellsFrom, c0, c1, c2, c3, c4, c5, c6, c7, Result.andThen, e]
theorem results_by {fn : Func} {s5 s6 : Tmp} (h : fn.results = #[.cell s5 58, .cell s6 65]) (tmps : Array Value) (w : World) (g g' : Nat) (h5 : tmps[s5]?.getD undef = .pointer (some ⟨g, 0, none⟩)) (h6 : tmps[s6]?.getD undef = .pointer (some ⟨g', 0, none⟩))
    {T : TypeId} {a b a0 a1 a2 a3 a4 a5 a6 a7 : Value} (hf : Blk w g T #[a, b]) (k : Blk w g' 65 #[a0, a1, a2, a3, a4, a5, a6, a7]) :
    (results fn tmps).run Try.prog w = .ok (.tuple #[.agg #[a, b], .agg #[a0, a1, a2, a3, a4, a5, a6, a7]]) w := by
  simp [results, h, h5, h6, loadVar, isAggF, isAggTold, asAddr, cellsF, cellsTold, load_two hf, load_told k, Result.andThen]
theorem blk8 {w : World} {g : Nat} {T : TypeId} {a0 a1 a2 a3 a4 a5 a6 a7 : Value} (h : Blk w g T #[a0, a1, a2, a3, a4, a5, a6, a7]) :
    (w.cell? ⟨g, 0, none⟩ = some a0 ∧ w.cell? ⟨g, 1, none⟩ = some a1 ∧ w.cell? ⟨g, 2, none⟩ = some a2 ∧ w.cell? ⟨g, 3, none⟩ = some a3 ∧ w.cell? ⟨g, 4, none⟩ = some a4 ∧ w.cell? ⟨g, 5, none⟩ = some a5 ∧ w.cell? ⟨g, 6, none⟩ = some a6 ∧ w.cell? ⟨g, 7, none⟩ = some a7) ∧
    (w.frozen? ⟨g, 0, none⟩ = false ∧ w.frozen? ⟨g, 1, none⟩ = false ∧ w.frozen? ⟨g, 2, none⟩ = false ∧ w.frozen? ⟨g, 3, none⟩ = false ∧ w.frozen? ⟨g, 4, none⟩ = false ∧ w.frozen? ⟨g, 5, none⟩ = false ∧ w.frozen? ⟨g, 6, none⟩ = false ∧ w.frozen? ⟨g, 7, none⟩ = false) :=
  ⟨⟨by rw [h.cell]; rfl, by rw [h.cell]; rfl, by rw [h.cell]; rfl, by rw [h.cell]; rfl, by rw [h.cell]; rfl, by rw [h.cell]; rfl, by rw [h.cell]; rfl, by rw [h.cell]; rfl⟩, h.frozen 0, h.frozen 1, h.frozen 2, h.frozen 3, h.frozen 4, h.frozen 5, h.frozen 6, h.frozen 7⟩
def sets8 (w : World) (g : Nat) (a0 a1 a2 a3 a4 a5 a6 a7 : Value) : World := (((((((w.setCell ⟨g, 0, none⟩ a0).setCell ⟨g, 1, none⟩ a1).setCell ⟨g, 2, none⟩ a2).setCell ⟨g, 3, none⟩ a3).setCell ⟨g, 4, none⟩ a4).setCell ⟨g, 5, none⟩ a5).setCell ⟨g, 6, none⟩ a6).setCell ⟨g, 7, none⟩ a7
theorem set8 {w w0 : World} {g B : Nat} {T : TypeId} {b0 b1 b2 b3 b4 b5 b6 b7 : Value} (h : Blk w g T #[b0, b1, b2, b3, b4, b5, b6, b7]) (hB : Bl B w0 w) (hg : B ≤ g) (a0 a1 a2 a3 a4 a5 a6 a7 : Value) :
    Blk (sets8 w g a0 a1 a2 a3 a4 a5 a6 a7) g T #[a0, a1, a2, a3, a4, a5, a6, a7] ∧ Bl B w0 (sets8 w g a0 a1 a2 a3 a4 a5 a6 a7) ∧ Far (fun i => i = g) w (sets8 w g a0 a1 a2 a3 a4 a5 a6 a7) := by
  unfold sets8
  refine ⟨by have := (((((((h.set 0 a0).set 1 a1).set 2 a2).set 3 a3).set 4 a4).set 5 a5).set 6 a6).set 7 a7; simpa using this, (((((((hB.setCell (p := ⟨g, 0, none⟩) hg a0).setCell (p := ⟨g, 1, none⟩) hg a1).setCell (p := ⟨g, 2, none⟩) hg a2).setCell (p := ⟨g, 3, none⟩) hg a3).setCell (p := ⟨g, 4, none⟩) hg a4).setCell (p := ⟨g, 5, none⟩) hg a5).setCell (p := ⟨g, 6, none⟩) hg a6).setCell (p := ⟨g, 7, none⟩) hg a7,
    ((((((((Far.refl (fun i => i = g) w).setCell (p := ⟨g, 0, none⟩) (fun _ => rfl) a0).setCell (p := ⟨g, 1, none⟩) (fun _ => rfl) a1).setCell (p := ⟨g, 2, none⟩) (fun _ => rfl) a2).setCell (p := ⟨g, 3, none⟩) (fun _ => rfl) a3).setCell (p := ⟨g, 4, none⟩) (fun _ => rfl) a4).setCell (p := ⟨g, 5, none⟩) (fun _ => rfl) a5).setCell (p := ⟨g, 6, none⟩) (fun _ => rfl) a6).setCell (p := ⟨g, 7, none⟩) (fun _ => rfl) a7⟩
set_option maxRecDepth 100000 in
set_option maxHeartbeats 1000000 in
theorem by0_any {N : Nat → Prop} {w : World} {v : Value} {t : Tbl} (hN : ∀ k, w.heap.size ≤ k → N k) (h : Rf N w v t) (ok : t.Ok) (hf : t.Full) (z : Int) (a : Deed) (hl : t.rows.length ≤ 1000) (hk : a.k = 0) :
    Calls Try.prog 30 #[.agg #[.int .i64 z, v], .agg #[.int .i64 a.k, .int .i64 a.s, .int .i64 a.b, .string a.r]] w fun e w' => ∃ v' vl vc, e = .returned (.tuple #[.agg #[.int .i64 z, v'], .agg (toldF (t.does a).2 vl vc)]) ∧ Rf N w' v' (t.does a).1 ∧ Below w.heap.size w w' ∧ w'.ownsRow w.heap.size 3 1 vl (t.does a).2.l.length ((t.does a).2.l.map (Value.int .i64)) ∧ Chs w' vc (t.does a).2.x.chs := by
  obtain ⟨ak, sn, bk, rt⟩ := a
  simp only at hk
  subst hk
  simp only
  have ED : Hid (t.does ⟨0, sn, bk, rt⟩ = ((t.sub sn).1, ⟨(t.sub sn).2, 0, [], n0⟩)) := Lib.hid (by unfold Tbl.does; rw [if_pos rfl])
  obtain ⟨A, n, c, rfl⟩ := h.shape
  have b0 := (((((Bl.start w).alloc (.cells #[.int .i64 z, .slice A n c] 58)).alloc (.cells #[.int .i64 0, .int .i64 sn, .int .i64 bk, .string rt] 68)).alloc (.cells #[.int .i64 0, .slice none 0 0] 58)).alloc (.cells #[.bool false, .int .i64 0, .slice none 0 0, .int .i64 0, .int .i64 0, .int .i64 0, .string ⟨#[]⟩, .slice none 0 0] 65)).alloc (.cells #[.bool false, .int .i64 0, .slice none 0 0, .int .i64 0, .int .i64 0, .int .i64 0, .string ⟨#[]⟩, .slice none 0 0] 65)
  have HN := Lib.hid hN
  have OK := Lib.hid ok
  have H1 := Lib.hid ((((h.but (Below.refl _ _) (r := w.heap.size + 1 + 1 + 1) (by omega)).but (Below.refl _ _) (r := w.heap.size + 1 + 1) (by omega)).but (Below.refl _ _) (r := w.heap.size + 1 + 1 + 1 + 1) (by omega)).but b0.1 (r := w.heap.size) (by omega))
  have BK := Lib.hid (((((Blk.new w 58 #[.int .i64 z, .slice A n c]).alloc (.cells #[.int .i64 0, .int .i64 sn, .int .i64 bk, .string rt] 68)).alloc (.cells #[.int .i64 0, .slice none 0 0] 58)).alloc (.cells #[.bool false, .int .i64 0, .slice none 0 0, .int .i64 0, .int .i64 0, .int .i64 0, .string ⟨#[]⟩, .slice none 0 0] 65)).alloc (.cells #[.bool false, .int .i64 0, .slice none 0 0, .int .i64 0, .int .i64 0, .int .i64 0, .string ⟨#[]⟩, .slice none 0 0] 65))
  have BA := Lib.hid (by have := (((Blk.new (w.alloc (.cells #[.int .i64 z, .slice A n c] 58)) 68 #[.int .i64 0, .int .i64 sn, .int .i64 bk, .string rt]).alloc (.cells #[.int .i64 0, .slice none 0 0] 58)).alloc (.cells #[.bool false, .int .i64 0, .slice none 0 0, .int .i64 0, .int .i64 0, .int .i64 0, .string ⟨#[]⟩, .slice none 0 0] 65)).alloc (.cells #[.bool false, .int .i64 0, .slice none 0 0, .int .i64 0, .int .i64 0, .int .i64 0, .string ⟨#[]⟩, .slice none 0 0] 65); rwa [World.size_alloc] at this)
  have BR := Lib.hid (by have := ((Blk.new ((w.alloc (.cells #[.int .i64 z, .slice A n c] 58)).alloc (.cells #[.int .i64 0, .int .i64 sn, .int .i64 bk, .string rt] 68)) 58 #[.int .i64 0, .slice none 0 0]).alloc (.cells #[.bool false, .int .i64 0, .slice none 0 0, .int .i64 0, .int .i64 0, .int .i64 0, .string ⟨#[]⟩, .slice none 0 0] 65)).alloc (.cells #[.bool false, .int .i64 0, .slice none 0 0, .int .i64 0, .int .i64 0, .int .i64 0, .string ⟨#[]⟩, .slice none 0 0] 65); rwa [World.size_alloc, World.size_alloc] at this)
  have BU := Lib.hid (by have := (Blk.new (((w.alloc (.cells #[.int .i64 z, .slice A n c] 58)).alloc (.cells #[.int .i64 0, .int .i64 sn, .int .i64 bk, .string rt] 68)).alloc (.cells #[.int .i64 0, .slice none 0 0] 58)) 65 #[.bool false, .int .i64 0, .slice none 0 0, .int .i64 0, .int .i64 0, .int .i64 0, .string ⟨#[]⟩, .slice none 0 0]).alloc (.cells #[.bool false, .int .i64 0, .slice none 0 0, .int .i64 0, .int .i64 0, .int .i64 0, .string ⟨#[]⟩, .slice none 0 0] 65); rwa [World.size_alloc, World.size_alloc, World.size_alloc] at this)
  have BT := Lib.hid (by have := Blk.new ((((w.alloc (.cells #[.int .i64 z, .slice A n c] 58)).alloc (.cells #[.int .i64 0, .int .i64 sn, .int .i64 bk, .string rt] 68)).alloc (.cells #[.int .i64 0, .slice none 0 0] 58)).alloc (.cells #[.bool false, .int .i64 0, .slice none 0 0, .int .i64 0, .int .i64 0, .int .i64 0, .string ⟨#[]⟩, .slice none 0 0] 65)) 65 #[.bool false, .int .i64 0, .slice none 0 0, .int .i64 0, .int .i64 0, .int .i64 0, .string ⟨#[]⟩, .slice none 0 0]; rwa [World.size_alloc, World.size_alloc, World.size_alloc, World.size_alloc] at this)
  have B0 := Lib.hid b0
  have SZ : Hid ((((((w.alloc (.cells #[.int .i64 z, .slice A n c] 58)).alloc (.cells #[.int .i64 0, .int .i64 sn, .int .i64 bk, .string rt] 68)).alloc (.cells #[.int .i64 0, .slice none 0 0] 58)).alloc (.cells #[.bool false, .int .i64 0, .slice none 0 0, .int .i64 0, .int .i64 0, .int .i64 0, .string ⟨#[]⟩, .slice none 0 0] 65)).alloc (.cells #[.bool false, .int .i64 0, .slice none 0 0, .int .i64 0, .int .i64 0, .int .i64 0, .string ⟨#[]⟩, .slice none 0 0] 65)).heap.size = w.heap.size + 1 + 1 + 1 + 1 + 1) := Lib.hid (by simp)
  clear h b0 hN ok
  go_enter Try.func30, Try.ntmps30
  obtain ⟨x0, x1, x2, x3⟩ : (((((w.alloc (.cells #[.int .i64 z, .slice A n c] 58)).alloc (.cells #[.int .i64 0, .int .i64 sn, .int .i64 bk, .string rt] 68)).alloc (.cells #[.int .i64 0, .slice none 0 0] 58)).alloc (.cells #[.bool false, .int .i64 0, .slice none 0 0, .int .i64 0, .int .i64 0, .int .i64 0, .string ⟨#[]⟩, .slice none 0 0] 65)).alloc (.cells #[.bool false, .int .i64 0, .slice none 0 0, .int .i64 0, .int .i64 0, .int .i64 0, .string ⟨#[]⟩, .slice none 0 0] 65)).cell? ⟨w.heap.size + 1, 0, none⟩ = some (.int .i64 0) ∧ (((((w.alloc (.cells #[.int .i64 z, .slice A n c] 58)).alloc (.cells #[.int .i64 0, .int .i64 sn, .int .i64 bk, .string rt] 68)).alloc (.cells #[.int .i64 0, .slice none 0 0] 58)).alloc (.cells #[.bool false, .int .i64 0, .slice none 0 0, .int .i64 0, .int .i64 0, .int .i64 0, .string ⟨#[]⟩, .slice none 0 0] 65)).alloc (.cells #[.bool false, .int .i64 0, .slice none 0 0, .int .i64 0, .int .i64 0, .int .i64 0, .string ⟨#[]⟩, .slice none 0 0] 65)).cell? ⟨w.heap.size + 1, 1, none⟩ = some (.int .i64 sn) ∧ (((((w.alloc (.cells #[.int .i64 z, .slice A n c] 58)).alloc (.cells #[.int .i64 0, .int .i64 sn, .int .i64 bk, .string rt] 68)).alloc (.cells #[.int .i64 0, .slice none 0 0] 58)).alloc (.cells #[.bool false, .int .i64 0, .slice none 0 0, .int .i64 0, .int .i64 0, .int .i64 0, .string ⟨#[]⟩, .slice none 0 0] 65)).alloc (.cells #[.bool false, .int .i64 0, .slice none 0 0, .int .i64 0, .int .i64 0, .int .i64 0, .string ⟨#[]⟩, .slice none 0 0] 65)).cell? ⟨w.heap.size + 1, 2, none⟩ = some (.int .i64 bk) ∧ (((((w.alloc (.cells #[.int .i64 z, .slice A n c] 58)).alloc (.cells #[.int .i64 0, .int .i64 sn, .int .i64 bk, .string rt] 68)).alloc (.cells #[.int .i64 0, .slice none 0 0] 58)).alloc (.cells #[.bool false, .int .i64 0, .slice none 0 0, .int .i64 0, .int .i64 0, .int .i64 0, .string ⟨#[]⟩, .slice none 0 0] 65)).alloc (.cells #[.bool false, .int .i64 0, .slice none 0 0, .int .i64 0, .int .i64 0, .int .i64 0, .string ⟨#[]⟩, .slice none 0 0] 65)).cell? ⟨w.heap.size + 1, 3, none⟩ = some (.string rt) := ⟨by rw [BA.out.cell]; rfl, by rw [BA.out.cell]; rfl, by rw [BA.out.cell]; rfl, by rw [BA.out.cell]; rfl⟩
  obtain ⟨k0, k1, -, -⟩ := blk2 BK.out
  go_wp2_with fail
  generalize ((((w.alloc (.cells #[.int .i64 z, .slice A n c] 58)).alloc (.cells #[.int .i64 0, .int .i64 sn, .int .i64 bk, .string rt] 68)).alloc (.cells #[.int .i64 0, .slice none 0 0] 58)).alloc (.cells #[.bool false, .int .i64 0, .slice none 0 0, .int .i64 0, .int .i64 0, .int .i64 0, .string ⟨#[]⟩, .slice none 0 0] 65)).alloc (.cells #[.bool false, .int .i64 0, .slice none 0 0, .int .i64 0, .int .i64 0, .int .i64 0, .string ⟨#[]⟩, .slice none 0 0] 65) = w1 at *
  refine (rfsub_any (fun k hk => ⟨⟨⟨⟨HN.out k (by have := B0.out.2; omega), by have := SZ.out; omega⟩, by have := SZ.out; omega⟩, by have := SZ.out; omega⟩, by have := SZ.out; omega⟩) H1.out OK.out z sn hl).mono ?_
  rintro e w2 ⟨v2, rfl, h2, hb⟩
  obtain ⟨A2, n2, c2, rfl⟩ := h2.shape
  have H2 := Lib.hid h2
  have B2 := Lib.hid (B0.out.call hb)
  have BK2 := Lib.hid (BK.out.below hb)
  have BR2 := Lib.hid (BR.out.below hb)
  have BU2 := Lib.hid (BU.out.below hb)
  have BT2 := Lib.hid (BT.out.below hb)
  clear h2 hb H1 B0 BK BA BR BU BT k0 k1 x0 x1 x2 x3
  obtain ⟨k0, k1, f0, f1⟩ := blk2 BK2.out
  obtain ⟨⟨m0, m1, m2, m3, m4, m5, m6, m7⟩, fm0, -, -, -, -, -, -, -⟩ := blk8 BT2.out
  go_upto_region 12 with (fail)
  obtain ⟨u1, u2, u3⟩ := set2 BK2.out B2.out (Nat.le_refl _) (.int .i64 z) (.slice A2 n2 c2)
  have F5 : Far (fun i => i = w.heap.size + 1 + 1 + 1 + 1) ((w2.setCell ⟨w.heap.size, 0, none⟩ (.int .i64 z)).setCell ⟨w.heap.size, 1, none⟩ (.slice A2 n2 c2)) (((w2.setCell ⟨w.heap.size, 0, none⟩ (.int .i64 z)).setCell ⟨w.heap.size, 1, none⟩ (.slice A2 n2 c2)).setCell ⟨w.heap.size + 1 + 1 + 1 + 1, 0, none⟩ (.bool (t.sub sn).2)) := (Far.refl (fun i => i = w.heap.size + 1 + 1 + 1 + 1) _).setCell (p := ⟨w.heap.size + 1 + 1 + 1 + 1, 0, none⟩) (fun _ => rfl) _
  have B5 := Lib.hid (u2.setCell (p := ⟨w.heap.size + 1 + 1 + 1 + 1, 0, none⟩) (by show w.heap.size ≤ w.heap.size + 1 + 1 + 1 + 1; omega) (.bool (t.sub sn).2))
  have BK5 := Lib.hid (u1.far F5 (by omega))
  have BR5 := Lib.hid ((BR2.out.far u3 (by omega)).far F5 (by omega))
  have BU5 := Lib.hid ((BU2.out.far u3 (by omega)).far F5 (by omega))
  have BT5 : Hid (Blk (((w2.setCell ⟨w.heap.size, 0, none⟩ (.int .i64 z)).setCell ⟨w.heap.size, 1, none⟩ (.slice A2 n2 c2)).setCell ⟨w.heap.size + 1 + 1 + 1 + 1, 0, none⟩ (.bool (t.sub sn).2)) (w.heap.size + 1 + 1 + 1 + 1) 65 #[.bool (t.sub sn).2, .int .i64 0, .slice none 0 0, .int .i64 0, .int .i64 0, .int .i64 0, .string ⟨#[]⟩, .slice none 0 0]) := Lib.hid (by have := (BT2.out.far u3 (by omega)).set 0 (.bool (t.sub sn).2); simpa using this)
  have H5 : Hid (Rf (fun b => (N b ∧ b ≠ w.heap.size + 1 + 1 + 1) ∧ b ≠ w.heap.size + 1 + 1) (((w2.setCell ⟨w.heap.size, 0, none⟩ (.int .i64 z)).setCell ⟨w.heap.size, 1, none⟩ (.slice A2 n2 c2)).setCell ⟨w.heap.size + 1 + 1 + 1 + 1, 0, none⟩ (.bool (t.sub sn).2)) (.slice A2 n2 c2) (t.sub sn).1) := Lib.hid ((H2.out.set BK2.out (by decide) u3).set (BT2.out.far u3 (by omega)) (by decide) F5)
  generalize ((w2.setCell ⟨w.heap.size, 0, none⟩ (.int .i64 z)).setCell ⟨w.heap.size, 1, none⟩ (.slice A2 n2 c2)).setCell ⟨w.heap.size + 1 + 1 + 1 + 1, 0, none⟩ (.bool (t.sub sn).2) = w5 at *
  clear u1 u2 u3 F5 k0 k1 f0 f1 m0 m1 m2 m3 m4 m5 m6 m7 fm0 BK2 BR2 BU2 BT2 B2 H2
  obtain ⟨k0, k1, -, -⟩ := blk2 BK5.out
  obtain ⟨r0, r1, fr0, fr1⟩ := blk2 BR5.out
  obtain ⟨⟨y0, y1, y2, y3, y4, y5, y6, y7⟩, g0, g1, g2, g3, g4, g5, g6, g7⟩ := blk8 BU5.out
  obtain ⟨⟨m0, m1, m2, m3, m4, m5, m6, m7⟩, -⟩ := blk8 BT5.out
  go_region
  obtain ⟨u1, u2, u3⟩ := set2 BR5.out B5.out (by omega) (.int .i64 z) (.slice A2 n2 c2)
  obtain ⟨p1, p2, p3⟩ := set8 (BU5.out.far u3 (by omega)) u2 (by omega) (.bool (t.sub sn).2) (.int .i64 0) (.slice none 0 0) (.int .i64 0) (.int .i64 0) (.int .i64 0) (.string ⟨#[]⟩) (.slice none 0 0)
  have U1 := Lib.hid (u1.far p3 (by omega))
  have HR := Lib.hid ((H5.out.set BR5.out (by decide) u3).set (BU5.out.far u3 (by omega)) (by decide) p3)
  have P1 := Lib.hid p1
  have P2 := Lib.hid (p2.drewN 1)
  obtain ⟨W9, hW9⟩ : ∃ W, W = sets8 ((w5.setCell ⟨w.heap.size + 1 + 1, 0, none⟩ (.int .i64 z)).setCell ⟨w.heap.size + 1 + 1, 1, none⟩ (.slice A2 n2 c2)) (w.heap.size + 1 + 1 + 1) (.bool (t.sub sn).2) (.int .i64 0) (.slice none 0 0) (.int .i64 0) (.int .i64 0) (.int .i64 0) (.string ⟨#[]⟩) (.slice none 0 0) := ⟨_, rfl⟩
  rw [← hW9] at U1 HR P1 P2
  unfold sets8 at hW9
  rw [← hW9]
  clear hW9 u1 u2 u3 p1 p2 p3 k0 k1 r0 r1 fr0 fr1 y0 y1 y2 y3 y4 y5 y6 y7 g0 g1 g2 g3 g4 g5 g6 g7 m0 m1 m2 m3 m4 m5 m6 m7
  have U2 : Hid (Blk W9.drew (w.heap.size + 1 + 1) 58 #[.int .i64 z, .slice A2 n2 c2]) := Lib.hid U1.out
  have P3 : Hid (Blk W9.drew (w.heap.size + 1 + 1 + 1) 65 #[.bool (t.sub sn).2, .int .i64 0, .slice none 0 0, .int .i64 0, .int .i64 0, .int .i64 0, .string ⟨#[]⟩, .slice none 0 0]) := Lib.hid P1.out
  have HR2 : Hid (Rf N W9.drew (.slice A2 n2 c2) (t.sub sn).1) := Lib.hid (HR.out.below ((Bl.start W9).drewN 1).1)
  unfold Exit.then
  dsimp only
  apply_assumption
  refine wp_ret ?_
  show bodyPost _ _ _ _ _ _
  refine bodyPost_ret (results_by rfl _ _ _ _ rfl rfl U2.out P3.out) rfl ⟨.slice A2 n2 c2, .slice none 0 0, .slice none 0 0, by rw [ED.out]; rfl, ?_, P2.out.1, ?_, ?_⟩
  · rw [ED.out]; exact HR2.out
  · rw [ED.out]; exact ⟨rfl, .inl ⟨rfl, rfl⟩⟩
  · rw [ED.out]; exact .inl ⟨rfl, rfl⟩
set_option maxRecDepth 100000 in
set_option maxHeartbeats 1000000 in
theorem by1_any {N : Nat → Prop} {w : World} {v : Value} {t : Tbl} (hN : ∀ k, w.heap.size ≤ k → N k) (h : Rf N w v t) (ok : t.Ok) (hf : t.Full) (z : Int) (a : Deed) (hl : t.rows.length ≤ 1000) (hk : a.k = 1) :
    Calls Try.prog 30 #[.agg #[.int .i64 z, v], .agg #[.int .i64 a.k, .int .i64 a.s, .int .i64 a.b, .string a.r]] w fun e w' => ∃ v' vl vc, e = .returned (.tuple #[.agg #[.int .i64 z, v'], .agg (toldF (t.does a).2 vl vc)]) ∧ Rf N w' v' (t.does a).1 ∧ Below w.heap.size w w' ∧ w'.ownsRow w.heap.size 3 1 vl (t.does a).2.l.length ((t.does a).2.l.map (Value.int .i64)) ∧ Chs w' vc (t.does a).2.x.chs := by
  obtain ⟨ak, sn, bk, rt⟩ := a
  simp only at hk
  subst hk
  simp only
  have ED : Hid (t.does ⟨1, sn, bk, rt⟩ = ((t.unsub sn).1, ⟨(t.unsub sn).2, 0, [], n0⟩)) := Lib.hid (by unfold Tbl.does; rw [if_neg (show ¬ (1 : Int) = 0 by decide), if_pos rfl])
  obtain ⟨A, n, c, rfl⟩ := h.shape
  have b0 := (((((Bl.start w).alloc (.cells #[.int .i64 z, .slice A n c] 58)).alloc (.cells #[.int .i64 1, .int .i64 sn, .int .i64 bk, .string rt] 68)).alloc (.cells #[.int .i64 0, .slice none 0 0] 58)).alloc (.cells #[.bool false, .int .i64 0, .slice none 0 0, .int .i64 0, .int .i64 0, .int .i64 0, .string ⟨#[]⟩, .slice none 0 0] 65)).alloc (.cells #[.bool false, .int .i64 0, .slice none 0 0, .int .i64 0, .int .i64 0, .int .i64 0, .string ⟨#[]⟩, .slice none 0 0] 65)
  have HN := Lib.hid hN
  have OK := Lib.hid ok
  have HF := Lib.hid hf
  have H1 := Lib.hid ((((h.but (Below.refl _ _) (r := w.heap.size + 1 + 1 + 1) (by omega)).but (Below.refl _ _) (r := w.heap.size + 1 + 1) (by omega)).but (Below.refl _ _) (r := w.heap.size + 1 + 1 + 1 + 1) (by omega)).but b0.1 (r := w.heap.size) (by omega))
  have BK := Lib.hid (((((Blk.new w 58 #[.int .i64 z, .slice A n c]).alloc (.cells #[.int .i64 1, .int .i64 sn, .int .i64 bk, .string rt] 68)).alloc (.cells #[.int .i64 0, .slice none 0 0] 58)).alloc (.cells #[.bool false, .int .i64 0, .slice none 0 0, .int .i64 0, .int .i64 0, .int .i64 0, .string ⟨#[]⟩, .slice none 0 0] 65)).alloc (.cells #[.bool false, .int .i64 0, .slice none 0 0, .int .i64 0, .int .i64 0, .int .i64 0, .string ⟨#[]⟩, .slice none 0 0] 65))
  have BA := Lib.hid (by have := (((Blk.new (w.alloc (.cells #[.int .i64 z, .slice A n c] 58)) 68 #[.int .i64 1, .int .i64 sn, .int .i64 bk, .string rt]).alloc (.cells #[.int .i64 0, .slice none 0 0] 58)).alloc (.cells #[.bool false, .int .i64 0, .slice none 0 0, .int .i64 0, .int .i64 0, .int .i64 0, .string ⟨#[]⟩, .slice none 0 0] 65)).alloc (.cells #[.bool false, .int .i64 0, .slice none 0 0, .int .i64 0, .int .i64 0, .int .i64 0, .string ⟨#[]⟩, .slice none 0 0] 65); rwa [World.size_alloc] at this)
  have BR := Lib.hid (by have := ((Blk.new ((w.alloc (.cells #[.int .i64 z, .slice A n c] 58)).alloc (.cells #[.int .i64 1, .int .i64 sn, .int .i64 bk, .string rt] 68)) 58 #[.int .i64 0, .slice none 0 0]).alloc (.cells #[.bool false, .int .i64 0, .slice none 0 0, .int .i64 0, .int .i64 0, .int .i64 0, .string ⟨#[]⟩, .slice none 0 0] 65)).alloc (.cells #[.bool false, .int .i64 0, .slice none 0 0, .int .i64 0, .int .i64 0, .int .i64 0, .string ⟨#[]⟩, .slice none 0 0] 65); rwa [World.size_alloc, World.size_alloc] at this)
  have BU := Lib.hid (by have := (Blk.new (((w.alloc (.cells #[.int .i64 z, .slice A n c] 58)).alloc (.cells #[.int .i64 1, .int .i64 sn, .int .i64 bk, .string rt] 68)).alloc (.cells #[.int .i64 0, .slice none 0 0] 58)) 65 #[.bool false, .int .i64 0, .slice none 0 0, .int .i64 0, .int .i64 0, .int .i64 0, .string ⟨#[]⟩, .slice none 0 0]).alloc (.cells #[.bool false, .int .i64 0, .slice none 0 0, .int .i64 0, .int .i64 0, .int .i64 0, .string ⟨#[]⟩, .slice none 0 0] 65); rwa [World.size_alloc, World.size_alloc, World.size_alloc] at this)
  have BT := Lib.hid (by have := Blk.new ((((w.alloc (.cells #[.int .i64 z, .slice A n c] 58)).alloc (.cells #[.int .i64 1, .int .i64 sn, .int .i64 bk, .string rt] 68)).alloc (.cells #[.int .i64 0, .slice none 0 0] 58)).alloc (.cells #[.bool false, .int .i64 0, .slice none 0 0, .int .i64 0, .int .i64 0, .int .i64 0, .string ⟨#[]⟩, .slice none 0 0] 65)) 65 #[.bool false, .int .i64 0, .slice none 0 0, .int .i64 0, .int .i64 0, .int .i64 0, .string ⟨#[]⟩, .slice none 0 0]; rwa [World.size_alloc, World.size_alloc, World.size_alloc, World.size_alloc] at this)
  have B0 := Lib.hid b0
  have SZ : Hid ((((((w.alloc (.cells #[.int .i64 z, .slice A n c] 58)).alloc (.cells #[.int .i64 1, .int .i64 sn, .int .i64 bk, .string rt] 68)).alloc (.cells #[.int .i64 0, .slice none 0 0] 58)).alloc (.cells #[.bool false, .int .i64 0, .slice none 0 0, .int .i64 0, .int .i64 0, .int .i64 0, .string ⟨#[]⟩, .slice none 0 0] 65)).alloc (.cells #[.bool false, .int .i64 0, .slice none 0 0, .int .i64 0, .int .i64 0, .int .i64 0, .string ⟨#[]⟩, .slice none 0 0] 65)).heap.size = w.heap.size + 1 + 1 + 1 + 1 + 1) := Lib.hid (by simp)
  clear h b0 hN ok
  go_enter Try.func30, Try.ntmps30
  obtain ⟨x0, x1, x2, x3⟩ : (((((w.alloc (.cells #[.int .i64 z, .slice A n c] 58)).alloc (.cells #[.int .i64 1, .int .i64 sn, .int .i64 bk, .string rt] 68)).alloc (.cells #[.int .i64 0, .slice none 0 0] 58)).alloc (.cells #[.bool false, .int .i64 0, .slice none 0 0, .int .i64 0, .int .i64 0, .int .i64 0, .string ⟨#[]⟩, .slice none 0 0] 65)).alloc (.cells #[.bool false, .int .i64 0, .slice none 0 0, .int .i64 0, .int .i64 0, .int .i64 0, .string ⟨#[]⟩, .slice none 0 0] 65)).cell? ⟨w.heap.size + 1, 0, none⟩ = some (.int .i64 1) ∧ (((((w.alloc (.cells #[.int .i64 z, .slice A n c] 58)).alloc (.cells #[.int .i64 1, .int .i64 sn, .int .i64 bk, .string rt] 68)).alloc (.cells #[.int .i64 0, .slice none 0 0] 58)).alloc (.cells #[.bool false, .int .i64 0, .slice none 0 0, .int .i64 0, .int .i64 0, .int .i64 0, .string ⟨#[]⟩, .slice none 0 0] 65)).alloc (.cells #[.bool false, .int .i64 0, .slice none 0 0, .int .i64 0, .int .i64 0, .int .i64 0, .string ⟨#[]⟩, .slice none 0 0] 65)).cell? ⟨w.heap.size + 1, 1, none⟩ = some (.int .i64 sn) ∧ (((((w.alloc (.cells #[.int .i64 z, .slice A n c] 58)).alloc (.cells #[.int .i64 1, .int .i64 sn, .int .i64 bk, .string rt] 68)).alloc (.cells #[.int .i64 0, .slice none 0 0] 58)).alloc (.cells #[.bool false, .int .i64 0, .slice none 0 0, .int .i64 0, .int .i64 0, .int .i64 0, .string ⟨#[]⟩, .slice none 0 0] 65)).alloc (.cells #[.bool false, .int .i64 0, .slice none 0 0, .int .i64 0, .int .i64 0, .int .i64 0, .string ⟨#[]⟩, .slice none 0 0] 65)).cell? ⟨w.heap.size + 1, 2, none⟩ = some (.int .i64 bk) ∧ (((((w.alloc (.cells #[.int .i64 z, .slice A n c] 58)).alloc (.cells #[.int .i64 1, .int .i64 sn, .int .i64 bk, .string rt] 68)).alloc (.cells #[.int .i64 0, .slice none 0 0] 58)).alloc (.cells #[.bool false, .int .i64 0, .slice none 0 0, .int .i64 0, .int .i64 0, .int .i64 0, .string ⟨#[]⟩, .slice none 0 0] 65)).alloc (.cells #[.bool false, .int .i64 0, .slice none 0 0, .int .i64 0, .int .i64 0, .int .i64 0, .string ⟨#[]⟩, .slice none 0 0] 65)).cell? ⟨w.heap.size + 1, 3, none⟩ = some (.string rt) := ⟨by rw [BA.out.cell]; rfl, by rw [BA.out.cell]; rfl, by rw [BA.out.cell]; rfl, by rw [BA.out.cell]; rfl⟩
  obtain ⟨k0, k1, -, -⟩ := blk2 BK.out
  go_wp2_with fail
  generalize ((((w.alloc (.cells #[.int .i64 z, .slice A n c] 58)).alloc (.cells #[.int .i64 1, .int .i64 sn, .int .i64 bk, .string rt] 68)).alloc (.cells #[.int .i64 0, .slice none 0 0] 58)).alloc (.cells #[.bool false, .int .i64 0, .slice none 0 0, .int .i64 0, .int .i64 0, .int .i64 0, .string ⟨#[]⟩, .slice none 0 0] 65)).alloc (.cells #[.bool false, .int .i64 0, .slice none 0 0, .int .i64 0, .int .i64 0, .int .i64 0, .string ⟨#[]⟩, .slice none 0 0] 65) = w1 at *
  refine (rfunsub_any (fun k hk => ⟨⟨⟨⟨HN.out k (by have := B0.out.2; omega), by have := SZ.out; omega⟩, by have := SZ.out; omega⟩, by have := SZ.out; omega⟩, by have := SZ.out; omega⟩) H1.out OK.out HF.out z sn hl).mono ?_
  rintro e w2 ⟨v2, rfl, h2, hb⟩
  obtain ⟨A2, n2, c2, rfl⟩ := h2.shape
  have H2 := Lib.hid h2
  have B2 := Lib.hid (B0.out.call hb)
  have BK2 := Lib.hid (BK.out.below hb)
  have BR2 := Lib.hid (BR.out.below hb)
  have BU2 := Lib.hid (BU.out.below hb)
  have BT2 := Lib.hid (BT.out.below hb)
  clear h2 hb H1 B0 BK BA BR BU BT k0 k1 x0 x1 x2 x3
  obtain ⟨k0, k1, f0, f1⟩ := blk2 BK2.out
  obtain ⟨⟨m0, m1, m2, m3, m4, m5, m6, m7⟩, fm0, -, -, -, -, -, -, -⟩ := blk8 BT2.out
  go_upto_region 12 with (fail)
  obtain ⟨u1, u2, u3⟩ := set2 BK2.out B2.out (Nat.le_refl _) (.int .i64 z) (.slice A2 n2 c2)
  have F5 : Far (fun i => i = w.heap.size + 1 + 1 + 1 + 1) ((w2.setCell ⟨w.heap.size, 0, none⟩ (.int .i64 z)).setCell ⟨w.heap.size, 1, none⟩ (.slice A2 n2 c2)) (((w2.setCell ⟨w.heap.size, 0, none⟩ (.int .i64 z)).setCell ⟨w.heap.size, 1, none⟩ (.slice A2 n2 c2)).setCell ⟨w.heap.size + 1 + 1 + 1 + 1, 0, none⟩ (.bool (t.unsub sn).2)) := (Far.refl (fun i => i = w.heap.size + 1 + 1 + 1 + 1) _).setCell (p := ⟨w.heap.size + 1 + 1 + 1 + 1, 0, none⟩) (fun _ => rfl) _
  have B5 := Lib.hid (u2.setCell (p := ⟨w.heap.size + 1 + 1 + 1 + 1, 0, none⟩) (by show w.heap.size ≤ w.heap.size + 1 + 1 + 1 + 1; omega) (.bool (t.unsub sn).2))
  have BK5 := Lib.hid (u1.far F5 (by omega))
  have BR5 := Lib.hid ((BR2.out.far u3 (by omega)).far F5 (by omega))
  have BU5 := Lib.hid ((BU2.out.far u3 (by omega)).far F5 (by omega))
  have BT5 : Hid (Blk (((w2.setCell ⟨w.heap.size, 0, none⟩ (.int .i64 z)).setCell ⟨w.heap.size, 1, none⟩ (.slice A2 n2 c2)).setCell ⟨w.heap.size + 1 + 1 + 1 + 1, 0, none⟩ (.bool (t.unsub sn).2)) (w.heap.size + 1 + 1 + 1 + 1) 65 #[.bool (t.unsub sn).2, .int .i64 0, .slice none 0 0, .int .i64 0, .int .i64 0, .int .i64 0, .string ⟨#[]⟩, .slice none 0 0]) := Lib.hid (by have := (BT2.out.far u3 (by omega)).set 0 (.bool (t.unsub sn).2); simpa using this)
  have H5 : Hid (Rf (fun b => (N b ∧ b ≠ w.heap.size + 1 + 1 + 1) ∧ b ≠ w.heap.size + 1 + 1) (((w2.setCell ⟨w.heap.size, 0, none⟩ (.int .i64 z)).setCell ⟨w.heap.size, 1, none⟩ (.slice A2 n2 c2)).setCell ⟨w.heap.size + 1 + 1 + 1 + 1, 0, none⟩ (.bool (t.unsub sn).2)) (.slice A2 n2 c2) (t.unsub sn).1) := Lib.hid ((H2.out.set BK2.out (by decide) u3).set (BT2.out.far u3 (by omega)) (by decide) F5)
  generalize ((w2.setCell ⟨w.heap.size, 0, none⟩ (.int .i64 z)).setCell ⟨w.heap.size, 1, none⟩ (.slice A2 n2 c2)).setCell ⟨w.heap.size + 1 + 1 + 1 + 1, 0, none⟩ (.bool (t.unsub sn).2) = w5 at *
  clear u1 u2 u3 F5 k0 k1 f0 f1 m0 m1 m2 m3 m4 m5 m6 m7 fm0 BK2 BR2 BU2 BT2 B2 H2
  obtain ⟨k0, k1, -, -⟩ := blk2 BK5.out
  obtain ⟨r0, r1, fr0, fr1⟩ := blk2 BR5.out
  obtain ⟨⟨y0, y1, y2, y3, y4, y5, y6, y7⟩, g0, g1, g2, g3, g4, g5, g6, g7⟩ := blk8 BU5.out
  obtain ⟨⟨m0, m1, m2, m3, m4, m5, m6, m7⟩, -⟩ := blk8 BT5.out
  go_region
  obtain ⟨u1, u2, u3⟩ := set2 BR5.out B5.out (by omega) (.int .i64 z) (.slice A2 n2 c2)
  obtain ⟨p1, p2, p3⟩ := set8 (BU5.out.far u3 (by omega)) u2 (by omega) (.bool (t.unsub sn).2) (.int .i64 0) (.slice none 0 0) (.int .i64 0) (.int .i64 0) (.int .i64 0) (.string ⟨#[]⟩) (.slice none 0 0)
  have U1 := Lib.hid (u1.far p3 (by omega))
  have HR := Lib.hid ((H5.out.set BR5.out (by decide) u3).set (BU5.out.far u3 (by omega)) (by decide) p3)
  have P1 := Lib.hid p1
  have P2 := Lib.hid (p2.drewN 1)
  obtain ⟨W9, hW9⟩ : ∃ W, W = sets8 ((w5.setCell ⟨w.heap.size + 1 + 1, 0, none⟩ (.int .i64 z)).setCell ⟨w.heap.size + 1 + 1, 1, none⟩ (.slice A2 n2 c2)) (w.heap.size + 1 + 1 + 1) (.bool (t.unsub sn).2) (.int .i64 0) (.slice none 0 0) (.int .i64 0) (.int .i64 0) (.int .i64 0) (.string ⟨#[]⟩) (.slice none 0 0) := ⟨_, rfl⟩
  rw [← hW9] at U1 HR P1 P2
  unfold sets8 at hW9
  rw [← hW9]
  clear hW9 u1 u2 u3 p1 p2 p3 k0 k1 r0 r1 fr0 fr1 y0 y1 y2 y3 y4 y5 y6 y7 g0 g1 g2 g3 g4 g5 g6 g7 m0 m1 m2 m3 m4 m5 m6 m7
  have U2 : Hid (Blk W9.drew (w.heap.size + 1 + 1) 58 #[.int .i64 z, .slice A2 n2 c2]) := Lib.hid U1.out
  have P3 : Hid (Blk W9.drew (w.heap.size + 1 + 1 + 1) 65 #[.bool (t.unsub sn).2, .int .i64 0, .slice none 0 0, .int .i64 0, .int .i64 0, .int .i64 0, .string ⟨#[]⟩, .slice none 0 0]) := Lib.hid P1.out
  have HR2 : Hid (Rf N W9.drew (.slice A2 n2 c2) (t.unsub sn).1) := Lib.hid (HR.out.below ((Bl.start W9).drewN 1).1)
  unfold Exit.then
  dsimp only
  apply_assumption
  refine wp_ret ?_
  show bodyPost _ _ _ _ _ _
  refine bodyPost_ret (results_by rfl _ _ _ _ rfl rfl U2.out P3.out) rfl ⟨.slice A2 n2 c2, .slice none 0 0, .slice none 0 0, by rw [ED.out]; rfl, ?_, P2.out.1, ?_, ?_⟩
  · rw [ED.out]; exact HR2.out
  · rw [ED.out]; exact ⟨rfl, .inl ⟨rfl, rfl⟩⟩
  · rw [ED.out]; exact .inl ⟨rfl, rfl⟩
set_option maxRecDepth 100000 in
set_option maxHeartbeats 1000000 in
theorem by4_any {N : Nat → Prop} {w : World} {v : Value} {t : Tbl} (hN : ∀ k, w.heap.size ≤ k → N k) (h : Rf N w v t) (ok : t.Ok) (hf : t.Full) (z : Int) (a : Deed) (hl : t.rows.length ≤ 1000) (hk : ¬ a.k = 0 ∧ ¬ a.k = 1 ∧ ¬ a.k = 2 ∧ ¬ a.k = 3) :
    Calls Try.prog 30 #[.agg #[.int .i64 z, v], .agg #[.int .i64 a.k, .int .i64 a.s, .int .i64 a.b, .string a.r]] w fun e w' => ∃ v' vl vc, e = .returned (.tuple #[.agg #[.int .i64 z, v'], .agg (toldF (t.does a).2 vl vc)]) ∧ Rf N w' v' (t.does a).1 ∧ Below w.heap.size w w' ∧ w'.ownsRow w.heap.size 3 1 vl (t.does a).2.l.length ((t.does a).2.l.map (Value.int .i64)) ∧ Chs w' vc (t.does a).2.x.chs := by
  obtain ⟨ak, sn, bk, rt⟩ := a
  simp only at hk
  obtain ⟨hk0, hk1, hk2, hk3⟩ := hk
  have e0 : (ak == 0) = false := by simpa using hk0
  have e1 : (ak == 1) = false := by simpa using hk1
  have e2 : (ak == 2) = false := by simpa using hk2
  have e3 : (ak == 3) = false := by simpa using hk3
  simp only
  have ED : Hid (t.does ⟨ak, sn, bk, rt⟩ = ((t.forget sn).1, ⟨false, (t.forget sn).2, [], n0⟩)) := Lib.hid (by unfold Tbl.does; rw [if_neg hk0, if_neg hk1, if_neg hk2, if_neg hk3])
  obtain ⟨A, n, c, rfl⟩ := h.shape
  have b0 := (((((Bl.start w).alloc (.cells #[.int .i64 z, .slice A n c] 58)).alloc (.cells #[.int .i64 ak, .int .i64 sn, .int .i64 bk, .string rt] 68)).alloc (.cells #[.int .i64 0, .slice none 0 0] 58)).alloc (.cells #[.bool false, .int .i64 0, .slice none 0 0, .int .i64 0, .int .i64 0, .int .i64 0, .string ⟨#[]⟩, .slice none 0 0] 65)).alloc (.cells #[.bool false, .int .i64 0, .slice none 0 0, .int .i64 0, .int .i64 0, .int .i64 0, .string ⟨#[]⟩, .slice none 0 0] 65)
  have HN := Lib.hid hN
  have OK := Lib.hid ok
  have H1 := Lib.hid ((((h.but (Below.refl _ _) (r := w.heap.size + 1 + 1 + 1) (by omega)).but (Below.refl _ _) (r := w.heap.size + 1 + 1) (by omega)).but (Below.refl _ _) (r := w.heap.size + 1 + 1 + 1 + 1) (by omega)).but b0.1 (r := w.heap.size) (by omega))
  have BK := Lib.hid (((((Blk.new w 58 #[.int .i64 z, .slice A n c]).alloc (.cells #[.int .i64 ak, .int .i64 sn, .int .i64 bk, .string rt] 68)).alloc (.cells #[.int .i64 0, .slice none 0 0] 58)).alloc (.cells #[.bool false, .int .i64 0, .slice none 0 0, .int .i64 0, .int .i64 0, .int .i64 0, .string ⟨#[]⟩, .slice none 0 0] 65)).alloc (.cells #[.bool false, .int .i64 0, .slice none 0 0, .int .i64 0, .int .i64 0, .int .i64 0, .string ⟨#[]⟩, .slice none 0 0] 65))
  have BA := Lib.hid (by have := (((Blk.new (w.alloc (.cells #[.int .i64 z, .slice A n c] 58)) 68 #[.int .i64 ak, .int .i64 sn, .int .i64 bk, .string rt]).alloc (.cells #[.int .i64 0, .slice none 0 0] 58)).alloc (.cells #[.bool false, .int .i64 0, .slice none 0 0, .int .i64 0, .int .i64 0, .int .i64 0, .string ⟨#[]⟩, .slice none 0 0] 65)).alloc (.cells #[.bool false, .int .i64 0, .slice none 0 0, .int .i64 0, .int .i64 0, .int .i64 0, .string ⟨#[]⟩, .slice none 0 0] 65); rwa [World.size_alloc] at this)
  have BR := Lib.hid (by have := ((Blk.new ((w.alloc (.cells #[.int .i64 z, .slice A n c] 58)).alloc (.cells #[.int .i64 ak, .int .i64 sn, .int .i64 bk, .string rt] 68)) 58 #[.int .i64 0, .slice none 0 0]).alloc (.cells #[.bool false, .int .i64 0, .slice none 0 0, .int .i64 0, .int .i64 0, .int .i64 0, .string ⟨#[]⟩, .slice none 0 0] 65)).alloc (.cells #[.bool false, .int .i64 0, .slice none 0 0, .int .i64 0, .int .i64 0, .int .i64 0, .string ⟨#[]⟩, .slice none 0 0] 65); rwa [World.size_alloc, World.size_alloc] at this)
  have BU := Lib.hid (by have := (Blk.new (((w.alloc (.cells #[.int .i64 z, .slice A n c] 58)).alloc (.cells #[.int .i64 ak, .int .i64 sn, .int .i64 bk, .string rt] 68)).alloc (.cells #[.int .i64 0, .slice none 0 0] 58)) 65 #[.bool false, .int .i64 0, .slice none 0 0, .int .i64 0, .int .i64 0, .int .i64 0, .string ⟨#[]⟩, .slice none 0 0]).alloc (.cells #[.bool false, .int .i64 0, .slice none 0 0, .int .i64 0, .int .i64 0, .int .i64 0, .string ⟨#[]⟩, .slice none 0 0] 65); rwa [World.size_alloc, World.size_alloc, World.size_alloc] at this)
  have BT := Lib.hid (by have := Blk.new ((((w.alloc (.cells #[.int .i64 z, .slice A n c] 58)).alloc (.cells #[.int .i64 ak, .int .i64 sn, .int .i64 bk, .string rt] 68)).alloc (.cells #[.int .i64 0, .slice none 0 0] 58)).alloc (.cells #[.bool false, .int .i64 0, .slice none 0 0, .int .i64 0, .int .i64 0, .int .i64 0, .string ⟨#[]⟩, .slice none 0 0] 65)) 65 #[.bool false, .int .i64 0, .slice none 0 0, .int .i64 0, .int .i64 0, .int .i64 0, .string ⟨#[]⟩, .slice none 0 0]; rwa [World.size_alloc, World.size_alloc, World.size_alloc, World.size_alloc] at this)
  have B0 := Lib.hid b0
  have SZ : Hid ((((((w.alloc (.cells #[.int .i64 z, .slice A n c] 58)).alloc (.cells #[.int .i64 ak, .int .i64 sn, .int .i64 bk, .string rt] 68)).alloc (.cells #[.int .i64 0, .slice none 0 0] 58)).alloc (.cells #[.bool false, .int .i64 0, .slice none 0 0, .int .i64 0, .int .i64 0, .int .i64 0, .string ⟨#[]⟩, .slice none 0 0] 65)).alloc (.cells #[.bool false, .int .i64 0, .slice none 0 0, .int .i64 0, .int .i64 0, .int .i64 0, .string ⟨#[]⟩, .slice none 0 0] 65)).heap.size = w.heap.size + 1 + 1 + 1 + 1 + 1) := Lib.hid (by simp)
  clear h b0 hN ok
  go_enter Try.func30, Try.ntmps30
  obtain ⟨x0, x1, x2, x3⟩ : (((((w.alloc (.cells #[.int .i64 z, .slice A n c] 58)).alloc (.cells #[.int .i64 ak, .int .i64 sn, .int .i64 bk, .string rt] 68)).alloc (.cells #[.int .i64 0, .slice none 0 0] 58)).alloc (.cells #[.bool false, .int .i64 0, .slice none 0 0, .int .i64 0, .int .i64 0, .int .i64 0, .string ⟨#[]⟩, .slice none 0 0] 65)).alloc (.cells #[.bool false, .int .i64 0, .slice none 0 0, .int .i64 0, .int .i64 0, .int .i64 0, .string ⟨#[]⟩, .slice none 0 0] 65)).cell? ⟨w.heap.size + 1, 0, none⟩ = some (.int .i64 ak) ∧ (((((w.alloc (.cells #[.int .i64 z, .slice A n c] 58)).alloc (.cells #[.int .i64 ak, .int .i64 sn, .int .i64 bk, .string rt] 68)).alloc (.cells #[.int .i64 0, .slice none 0 0] 58)).alloc (.cells #[.bool false, .int .i64 0, .slice none 0 0, .int .i64 0, .int .i64 0, .int .i64 0, .string ⟨#[]⟩, .slice none 0 0] 65)).alloc (.cells #[.bool false, .int .i64 0, .slice none 0 0, .int .i64 0, .int .i64 0, .int .i64 0, .string ⟨#[]⟩, .slice none 0 0] 65)).cell? ⟨w.heap.size + 1, 1, none⟩ = some (.int .i64 sn) ∧ (((((w.alloc (.cells #[.int .i64 z, .slice A n c] 58)).alloc (.cells #[.int .i64 ak, .int .i64 sn, .int .i64 bk, .string rt] 68)).alloc (.cells #[.int .i64 0, .slice none 0 0] 58)).alloc (.cells #[.bool false, .int .i64 0, .slice none 0 0, .int .i64 0, .int .i64 0, .int .i64 0, .string ⟨#[]⟩, .slice none 0 0] 65)).alloc (.cells #[.bool false, .int .i64 0, .slice none 0 0, .int .i64 0, .int .i64 0, .int .i64 0, .string ⟨#[]⟩, .slice none 0 0] 65)).cell? ⟨w.heap.size + 1, 2, none⟩ = some (.int .i64 bk) ∧ (((((w.alloc (.cells #[.int .i64 z, .slice A n c] 58)).alloc (.cells #[.int .i64 ak, .int .i64 sn, .int .i64 bk, .string rt] 68)).alloc (.cells #[.int .i64 0, .slice none 0 0] 58)).alloc (.cells #[.bool false, .int .i64 0, .slice none 0 0, .int .i64 0, .int .i64 0, .int .i64 0, .string ⟨#[]⟩, .slice none 0 0] 65)).alloc (.cells #[.bool false, .int .i64 0, .slice none 0 0, .int .i64 0, .int .i64 0, .int .i64 0, .string ⟨#[]⟩, .slice none 0 0] 65)).cell? ⟨w.heap.size + 1, 3, none⟩ = some (.string rt) := ⟨by rw [BA.out.cell]; rfl, by rw [BA.out.cell]; rfl, by rw [BA.out.cell]; rfl, by rw [BA.out.cell]; rfl⟩
  obtain ⟨k0, k1, -, -⟩ := blk2 BK.out
  go_wp2_with fail
  generalize ((((w.alloc (.cells #[.int .i64 z, .slice A n c] 58)).alloc (.cells #[.int .i64 ak, .int .i64 sn, .int .i64 bk, .string rt] 68)).alloc (.cells #[.int .i64 0, .slice none 0 0] 58)).alloc (.cells #[.bool false, .int .i64 0, .slice none 0 0, .int .i64 0, .int .i64 0, .int .i64 0, .string ⟨#[]⟩, .slice none 0 0] 65)).alloc (.cells #[.bool false, .int .i64 0, .slice none 0 0, .int .i64 0, .int .i64 0, .int .i64 0, .string ⟨#[]⟩, .slice none 0 0] 65) = w1 at *
  refine (rfforget_any (fun k hk => ⟨⟨⟨⟨HN.out k (by have := B0.out.2; omega), by have := SZ.out; omega⟩, by have := SZ.out; omega⟩, by have := SZ.out; omega⟩, by have := SZ.out; omega⟩) H1.out OK.out z sn hl).mono ?_
  rintro e w2 ⟨v2, rfl, h2, hb⟩
  obtain ⟨A2, n2, c2, rfl⟩ := h2.shape
  have H2 := Lib.hid h2
  have B2 := Lib.hid (B0.out.call hb)
  have BK2 := Lib.hid (BK.out.below hb)
  have BR2 := Lib.hid (BR.out.below hb)
  have BU2 := Lib.hid (BU.out.below hb)
  have BT2 := Lib.hid (BT.out.below hb)
  clear h2 hb H1 B0 BK BA BR BU BT k0 k1 x0 x1 x2 x3
  obtain ⟨k0, k1, f0, f1⟩ := blk2 BK2.out
  obtain ⟨⟨m0, m1, m2, m3, m4, m5, m6, m7⟩, -, fm0, -, -, -, -, -, -⟩ := blk8 BT2.out
  go_upto_region 12 with (fail)
  obtain ⟨u1, u2, u3⟩ := set2 BK2.out B2.out (Nat.le_refl _) (.int .i64 z) (.slice A2 n2 c2)
  have F5 : Far (fun i => i = w.heap.size + 1 + 1 + 1 + 1) ((w2.setCell ⟨w.heap.size, 0, none⟩ (.int .i64 z)).setCell ⟨w.heap.size, 1, none⟩ (.slice A2 n2 c2)) (((w2.setCell ⟨w.heap.size, 0, none⟩ (.int .i64 z)).setCell ⟨w.heap.size, 1, none⟩ (.slice A2 n2 c2)).setCell ⟨w.heap.size + 1 + 1 + 1 + 1, 1, none⟩ (.int .i64 ((t.forget sn).2 : Int))) := (Far.refl (fun i => i = w.heap.size + 1 + 1 + 1 + 1) _).setCell (p := ⟨w.heap.size + 1 + 1 + 1 + 1, 1, none⟩) (fun _ => rfl) _
  have B5 := Lib.hid (u2.setCell (p := ⟨w.heap.size + 1 + 1 + 1 + 1, 1, none⟩) (by show w.heap.size ≤ w.heap.size + 1 + 1 + 1 + 1; omega) (.int .i64 ((t.forget sn).2 : Int)))
  have BK5 := Lib.hid (u1.far F5 (by omega))
  have BR5 := Lib.hid ((BR2.out.far u3 (by omega)).far F5 (by omega))
  have BU5 := Lib.hid ((BU2.out.far u3 (by omega)).far F5 (by omega))
  have BT5 : Hid (Blk (((w2.setCell ⟨w.heap.size, 0, none⟩ (.int .i64 z)).setCell ⟨w.heap.size, 1, none⟩ (.slice A2 n2 c2)).setCell ⟨w.heap.size + 1 + 1 + 1 + 1, 1, none⟩ (.int .i64 ((t.forget sn).2 : Int))) (w.heap.size + 1 + 1 + 1 + 1) 65 #[.bool false, .int .i64 ((t.forget sn).2 : Int), .slice none 0 0, .int .i64 0, .int .i64 0, .int .i64 0, .string ⟨#[]⟩, .slice none 0 0]) := Lib.hid (by have := (BT2.out.far u3 (by omega)).set 1 (.int .i64 ((t.forget sn).2 : Int)); simpa using this)
  have H5 : Hid (Rf (fun b => (N b ∧ b ≠ w.heap.size + 1 + 1 + 1) ∧ b ≠ w.heap.size + 1 + 1) (((w2.setCell ⟨w.heap.size, 0, none⟩ (.int .i64 z)).setCell ⟨w.heap.size, 1, none⟩ (.slice A2 n2 c2)).setCell ⟨w.heap.size + 1 + 1 + 1 + 1, 1, none⟩ (.int .i64 ((t.forget sn).2 : Int))) (.slice A2 n2 c2) (t.forget sn).1) := Lib.hid ((H2.out.set BK2.out (by decide) u3).set (BT2.out.far u3 (by omega)) (by decide) F5)
  generalize ((w2.setCell ⟨w.heap.size, 0, none⟩ (.int .i64 z)).setCell ⟨w.heap.size, 1, none⟩ (.slice A2 n2 c2)).setCell ⟨w.heap.size + 1 + 1 + 1 + 1, 1, none⟩ (.int .i64 ((t.forget sn).2 : Int)) = w5 at *
  clear u1 u2 u3 F5 k0 k1 f0 f1 m0 m1 m2 m3 m4 m5 m6 m7 fm0 BK2 BR2 BU2 BT2 B2 H2
  obtain ⟨k0, k1, -, -⟩ := blk2 BK5.out
  obtain ⟨r0, r1, fr0, fr1⟩ := blk2 BR5.out
  obtain ⟨⟨y0, y1, y2, y3, y4, y5, y6, y7⟩, g0, g1, g2, g3, g4, g5, g6, g7⟩ := blk8 BU5.out
  obtain ⟨⟨m0, m1, m2, m3, m4, m5, m6, m7⟩, -⟩ := blk8 BT5.out
  go_region
  obtain ⟨u1, u2, u3⟩ := set2 BR5.out B5.out (by omega) (.int .i64 z) (.slice A2 n2 c2)
  obtain ⟨p1, p2, p3⟩ := set8 (BU5.out.far u3 (by omega)) u2 (by omega) (.bool false) (.int .i64 ((t.forget sn).2 : Int)) (.slice none 0 0) (.int .i64 0) (.int .i64 0) (.int .i64 0) (.string ⟨#[]⟩) (.slice none 0 0)
  have U1 := Lib.hid (u1.far p3 (by omega))
  have HR := Lib.hid ((H5.out.set BR5.out (by decide) u3).set (BU5.out.far u3 (by omega)) (by decide) p3)
  have P1 := Lib.hid p1
  have P2 := Lib.hid (p2.drewN 1)
  obtain ⟨W9, hW9⟩ : ∃ W, W = sets8 ((w5.setCell ⟨w.heap.size + 1 + 1, 0, none⟩ (.int .i64 z)).setCell ⟨w.heap.size + 1 + 1, 1, none⟩ (.slice A2 n2 c2)) (w.heap.size + 1 + 1 + 1) (.bool false) (.int .i64 ((t.forget sn).2 : Int)) (.slice none 0 0) (.int .i64 0) (.int .i64 0) (.int .i64 0) (.string ⟨#[]⟩) (.slice none 0 0) := ⟨_, rfl⟩
  rw [← hW9] at U1 HR P1 P2
  unfold sets8 at hW9
  rw [← hW9]
  clear hW9 u1 u2 u3 p1 p2 p3 k0 k1 r0 r1 fr0 fr1 y0 y1 y2 y3 y4 y5 y6 y7 g0 g1 g2 g3 g4 g5 g6 g7 m0 m1 m2 m3 m4 m5 m6 m7
  have U2 : Hid (Blk W9.drew (w.heap.size + 1 + 1) 58 #[.int .i64 z, .slice A2 n2 c2]) := Lib.hid U1.out
  have P3 : Hid (Blk W9.drew (w.heap.size + 1 + 1 + 1) 65 #[.bool false, .int .i64 ((t.forget sn).2 : Int), .slice none 0 0, .int .i64 0, .int .i64 0, .int .i64 0, .string ⟨#[]⟩, .slice none 0 0]) := Lib.hid P1.out
  have HR2 : Hid (Rf N W9.drew (.slice A2 n2 c2) (t.forget sn).1) := Lib.hid (HR.out.below ((Bl.start W9).drewN 1).1)
  unfold Exit.then
  dsimp only
  apply_assumption
  refine wp_ret ?_
  show bodyPost _ _ _ _ _ _
  refine bodyPost_ret (results_by rfl _ _ _ _ rfl rfl U2.out P3.out) rfl ⟨.slice A2 n2 c2, .slice none 0 0, .slice none 0 0, by rw [ED.out]; rfl, ?_, P2.out.1, ?_, ?_⟩
  · rw [ED.out]; exact HR2.out
  · rw [ED.out]; exact ⟨rfl, .inl ⟨rfl, rfl⟩⟩
  · rw [ED.out]; exact .inl ⟨rfl, rfl⟩
end Go.Proofs.Ytjladlniilacjaa
