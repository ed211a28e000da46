/-
  Package model: find.
-/
import Derived.Test.YtdahhnefcageeaaMdlKept
namespace Go.Proofs.Ytdahhnefcageeaa
open Go.RowKit Go.Proofs.Mdl
set_option linter.unusedVariables false
set_option linter.unusedSimpArgs false
theorem isAggM (w : World) : (isAgg 24).run Try.prog w = .ok true w := by kernel_rfl
theorem cellsM : Try.prog.cellsOf 24 = 3 := by kernel_rfl
theorem sizeM (w : World) : (sizeOf 24).run Try.prog w = .ok 3 w := by kernel_rfl
theorem isAggP (w : World) : (isAgg 79).run Try.prog w = .ok true w := by kernel_rfl
theorem cellsP : Try.prog.cellsOf 79 = 5 := by kernel_rfl
theorem sizeP (w : World) : (sizeOf 79).run Try.prog w = .ok 5 w := by kernel_rfl
theorem load_blk3 {w : World} {g : Nat} {T : TypeId} {a b c : Value} (h : Blk w g T #[a, b, c]) : (loadCells ⟨g, 0, none⟩ 3).run Try.prog w = .ok #[a, b, c] w := by
  have e : ∀ k, (⟨g, 0, none⟩ : Addr).add k = ⟨g, k, none⟩ := fun k => by rw [Addr.add_mid, Nat.zero_add]
  have q0 : w.cell? ⟨g, 0, none⟩ = some a := by rw [h.cell]; rfl
  have q1 : w.cell? ⟨g, 1, none⟩ = some b := by rw [h.cell]; rfl
  have q2 : w.cell? ⟨g, 2, none⟩ = some c := by rw [h.cell]; rfl
  simp [loadCells, loadCellsFrom, q0, q1, q2, Result.andThen, e]
theorem load_blk5 {w : World} {g : Nat} {T : TypeId} {a b c d x : Value} (h : Blk w g T #[a, b, c, d, x]) : (loadCells ⟨g, 0, none⟩ 5).run Try.prog w = .ok #[a, b, c, d, x] w := by
  have e : ∀ k, (⟨g, 0, none⟩ : Addr).add k = ⟨g, k, none⟩ := fun k => by rw [Addr.add_mid, Nat.zero_add]
  have q0 : w.cell? ⟨g, 0, none⟩ = some a := by rw [h.cell]; rfl
  have q1 : w.cell? ⟨g, 1, none⟩ = some b := by rw [h.cell]; rfl
  have q2 : w.cell? ⟨g, 2, none⟩ = some c := by rw [h.cell]; rfl
  have q3 : w.cell? ⟨g, 3, none⟩ = some d := by rw [h.cell]; rfl
  have q4 : w.cell? ⟨g, 4, none⟩ = some x := by rw [h.cell]; rfl
  simp [loadCells, loadCellsFrom, q0, q1, q2, q3, q4, Result.andThen, e]
theorem results_p2 {fn : Func} {s s5 : Tmp} (h : fn.results = #[.cell s 79, .tmp s5]) (tmps : Array Value) (w : World) (g : Nat) (h4 : tmps[s]?.getD undef = .pointer (some ⟨g, 0, none⟩)) {y : Value} (h5 : tmps[s5]?.getD undef = y) {T : TypeId} {a b c d x : Value} (hf : Blk w g T #[a, b, c, d, x]) :
    (results fn tmps).run Try.prog w = .ok (.tuple #[.agg #[a, b, c, d, x], y]) w := by
  simp [results, h, h4, h5, loadVar, isAggP, sizeP, asAddr, load_blk5 hf, Result.andThen]
theorem results_m1 {fn : Func} {s : Tmp} (h : fn.results = #[.cell s 24]) (tmps : Array Value) (w : World) (g : Nat) (h4 : tmps[s]?.getD undef = .pointer (some ⟨g, 0, none⟩)) {T : TypeId} {a b c : Value} (hf : Blk w g T #[a, b, c]) :
    (results fn tmps).run Try.prog w = .ok (.agg #[a, b, c]) w := by
  simp [results, h, h4, loadVar, isAggM, sizeM, asAddr, load_blk3 hf, Result.andThen]
theorem results_m2 {fn : Func} {s s5 : Tmp} (h : fn.results = #[.cell s 24, .tmp s5]) (tmps : Array Value) (w : World) (g : Nat) (h4 : tmps[s]?.getD undef = .pointer (some ⟨g, 0, none⟩)) {y : Value} (h5 : tmps[s5]?.getD undef = y) {T : TypeId} {a b c : Value} (hf : Blk w g T #[a, b, c]) :
    (results fn tmps).run Try.prog w = .ok (.tuple #[.agg #[a, b, c], y]) w := by
  simp [results, h, h4, h5, loadVar, isAggM, sizeM, asAddr, load_blk3 hf, Result.andThen]
theorem results_m3 {fn : Func} {s s5 s6 : Tmp} (h : fn.results = #[.cell s 24, .tmp s5, .tmp s6]) (tmps : Array Value) (w : World) (g : Nat) (h4 : tmps[s]?.getD undef = .pointer (some ⟨g, 0, none⟩)) {y z : Value} (h5 : tmps[s5]?.getD undef = y) (h6 : tmps[s6]?.getD undef = z) {T : TypeId} {a b c : Value} (hf : Blk w g T #[a, b, c]) :
    (results fn tmps).run Try.prog w = .ok (.tuple #[.agg #[a, b, c], y, z]) w := by
  simp [results, h, h4, h5, h6, loadVar, isAggM, sizeM, asAddr, load_blk3 hf, Result.andThen]
def noSpot : Value := .agg #[.int .i64 0, .slice none 0 0, .slice none 0 0, .int .i64 0, .int .i64 0]
/-- Three boxes, one behind the other. -/
theorem three_boxes (w : World) (T1 T2 T3 : TypeId) (c1 c2 c3 : Array Value) : ∃ W g p s, W = ((w.alloc (.cells c1 T1)).alloc (.cells c2 T2)).alloc (.cells c3 T3) ∧ g = w.heap.size ∧ p = w.heap.size + 1 ∧ s = w.heap.size + 1 + 1 ∧ Below w.heap.size w W ∧ Blk W g T1 c1 ∧ Blk W p T2 c2 ∧ Blk W s T3 c3 := by
  have b1 : Below (w.alloc (.cells c1 T1)).heap.size (w.alloc (.cells c1 T1)) ((w.alloc (.cells c1 T1)).alloc (.cells c2 T2)) := (Below.refl _ _).alloc (Nat.le_refl _) _
  have b2 : Below ((w.alloc (.cells c1 T1)).alloc (.cells c2 T2)).heap.size ((w.alloc (.cells c1 T1)).alloc (.cells c2 T2)) (((w.alloc (.cells c1 T1)).alloc (.cells c2 T2)).alloc (.cells c3 T3)) := (Below.refl _ _).alloc (Nat.le_refl _) _
  have h1 := (Blk.new w T1 c1).below b1
  have h2 := Blk.new (w.alloc (.cells c1 T1)) T2 c2
  have h3 := Blk.new ((w.alloc (.cells c1 T1)).alloc (.cells c2 T2)) T3 c3
  refine ⟨_, _, _, _, rfl, rfl, rfl, rfl, ((Bl.start w).alloc _ |>.alloc _ |>.alloc _).1, h1.below b2, ?_, ?_⟩
  · have := h2.below b2
    rwa [World.size_alloc] at this
  · rwa [World.size_alloc, World.size_alloc] at h3
theorem put5 {w a : World} {B s : Nat} {T : TypeId} {a0 a1 a2 a3 a4 : Value} (h : Blk w s T #[a0, a1, a2, a3, a4]) (BW : Bl B a w) (hs : B ≤ s) (v0 v1 v2 v3 v4 : Value) :
    ∃ W, W = ((((w.setCell ⟨s, 0, none⟩ v0).setCell ⟨s, 1, none⟩ v1).setCell ⟨s, 2, none⟩ v2).setCell ⟨s, 3, none⟩ v3).setCell ⟨s, 4, none⟩ v4 ∧ Bl B a W ∧ Far (fun i => i = s) w W ∧ Blk W s T #[v0, v1, v2, v3, v4] := by
  have b1 := BW.setCell (p := ⟨s, 0, none⟩) hs v0
  have b2 := b1.setCell (p := ⟨s, 1, none⟩) hs v1
  have b3 := b2.setCell (p := ⟨s, 2, none⟩) hs v2
  have b4 := b3.setCell (p := ⟨s, 3, none⟩) hs v3
  have b5 := b4.setCell (p := ⟨s, 4, none⟩) hs v4
  have f1 := (Far.refl (fun i => i = s) w).setCell (p := ⟨s, 0, none⟩) (fun _ => rfl) v0
  have f2 := f1.setCell (p := ⟨s, 1, none⟩) (fun _ => rfl) v1
  have f3 := f2.setCell (p := ⟨s, 2, none⟩) (fun _ => rfl) v2
  have f4 := f3.setCell (p := ⟨s, 3, none⟩) (fun _ => rfl) v3
  have f5 := f4.setCell (p := ⟨s, 4, none⟩) (fun _ => rfl) v4
  have := ((((h.set 0 v0).set 1 v1).set 2 v2).set 3 v3).set 4 v4
  exact ⟨_, rfl, b5, f5, this⟩
theorem put3 {w a : World} {B s : Nat} {T : TypeId} {a0 a1 a2 : Value} (h : Blk w s T #[a0, a1, a2]) (BW : Bl B a w) (hs : B ≤ s) (v0 v1 v2 : Value) :
    ∃ W, W = ((w.setCell ⟨s, 0, none⟩ v0).setCell ⟨s, 1, none⟩ v1).setCell ⟨s, 2, none⟩ v2 ∧ Bl B a W ∧ Far (fun i => i = s) w W ∧ Blk W s T #[v0, v1, v2] := by
  have b1 := BW.setCell (p := ⟨s, 0, none⟩) hs v0
  have b2 := b1.setCell (p := ⟨s, 1, none⟩) hs v1
  have b3 := b2.setCell (p := ⟨s, 2, none⟩) hs v2
  have f1 := (Far.refl (fun i => i = s) w).setCell (p := ⟨s, 0, none⟩) (fun _ => rfl) v0
  have f2 := f1.setCell (p := ⟨s, 1, none⟩) (fun _ => rfl) v1
  have f3 := f2.setCell (p := ⟨s, 2, none⟩) (fun _ => rfl) v2
  have := ((h.set 0 v0).set 1 v1).set 2 v2
  exact ⟨_, rfl, b3, f3, this⟩
set_option maxRecDepth 100000 in
set_option maxHeartbeats 2000000 in
theorem find_none {N : Nat → Prop} {w : World} {v : Value} {M : Mod} {blk : Int} (h : Md N w v M) (hn : idxB M.all blk = none) (hl : M.all.length ≤ 1000) :
    Calls Try.prog 40 #[v, .int .i64 blk] w fun e w' => e = .returned (.tuple #[noSpot, .bool false]) ∧ Below w.heap.size w w' := by
  obtain ⟨u, rfl, hv⟩ := h
  obtain ⟨A, c, rfl⟩ := hv.shape
  unfold noSpot
  obtain ⟨w3, g, p, s, hw, hg, hp, hs, hb, b1, b2, b3⟩ := three_boxes w 24 3 79 #[.int .i64 M.w, .int .i64 M.n, .slice A M.all.length c] #[.int .i64 blk] #[.int .i64 0, .slice none 0 0, .slice none 0 0, .int .i64 0, .int .i64 0]
  have IX := Lib.hid (index_any (hv.below hb) b2.lt (b2.cell 0) hl)
  rw [hn] at IX
  have BW := Lib.hid (Bl.call (Bl.start w) hb)
  have B1 := Lib.hid b1
  have B3 := Lib.hid b3
  have m2 := b1.cell 2
  simp only [List.getElem?_toArray, List.getElem?_cons_succ, List.getElem?_cons_zero] at m2
  have SW : Hid (w.heap.size ≤ s) := Lib.hid (by omega)
  clear hv hn hb b1 b2 b3
  go_enter Try.func40, Try.ntmps40
  go_upto_region 1 with (fail)
  rw [← hw, ← hs, ← hp, ← hg]
  clear hw hs hp hg
  go_upto_region 2 with (go_at_call 66; refine IX.out.mono ?_; rintro e w4 ⟨rfl, hb⟩; have HB := Lib.hid hb; clear hb)
  have B4 := Lib.hid (B3.out.below HB.out)
  have BW4 := Lib.hid (BW.out.call HB.out)
  have k0 := B4.out.cell 0
  have k1 := B4.out.cell 1
  have k2 := B4.out.cell 2
  have k3 := B4.out.cell 3
  have k4 := B4.out.cell 4
  simp only [List.getElem?_toArray, List.getElem?_cons_succ, List.getElem?_cons_zero] at k0 k1 k2 k3 k4
  have f0 := B4.out.frozen 0
  have f1 := B4.out.frozen 1
  have f2 := B4.out.frozen 2
  have f3 := B4.out.frozen 3
  have f4 := B4.out.frozen 4
  unfold idxI
  clear m2
  go_wp2_with fail
  obtain ⟨w5, hw5, bw5, _, b5⟩ := put5 B4.out BW4.out SW.out (.int .i64 0) (.slice none 0 0) (.slice none 0 0) (.int .i64 0) (.int .i64 0)
  rw [← hw5]
  refine bodyPost_ret (results_p2 rfl _ _ _ rfl rfl b5) rfl ?_
  exact ⟨rfl, bw5.1⟩
set_option maxRecDepth 100000 in
set_option maxHeartbeats 2000000 in
theorem find_some {N : Nat → Prop} {w : World} {v : Value} {M : Mod} {blk : Int} {k : Nat} {V : Ver} (h : Md N w v M) (hn : idxB M.all blk = some k) (hV : M.all[k]? = some V) (hl : M.all.length ≤ 1000) :
    Calls Try.prog 40 #[v, .int .i64 blk] w fun e w' => ∃ ve vc, e = .returned (.tuple #[.agg #[.int .i64 V.b, ve, vc, .int .i64 V.p, .int .i64 (k : Int)], .bool true]) ∧ EsN N w' ve V.e ∧ CsN N w' vc V.c ∧ Below w.heap.size w w' := by
  obtain ⟨u, rfl, hv⟩ := h
  have hk : k < M.all.length := (List.getElem?_eq_some_iff.1 hV).1
  obtain ⟨b, o, c, ve, vc, rfl, hbl, he, hc, d0, d1, d2, d3⟩ := hv.at_ hV
  obtain ⟨Ae, ce, rfl⟩ := he.toEs.shape
  obtain ⟨Ac, cc, rfl⟩ := hc.toCs.shape
  have ES := Lib.hid he
  have CS := Lib.hid hc
  obtain ⟨w3, g, p, s, hw, hg, hp, hs, hb, b1, b2, b3⟩ := three_boxes w 24 3 79 #[.int .i64 M.w, .int .i64 M.n, .slice (some ⟨b, o, none⟩) M.all.length c] #[.int .i64 blk] #[.int .i64 0, .slice none 0 0, .slice none 0 0, .int .i64 0, .int .i64 0]
  have IX := Lib.hid (index_any (hv.below hb) b2.lt (b2.cell 0) hl)
  rw [hn] at IX
  have BW := Lib.hid (Bl.call (Bl.start w) hb)
  have B1 := Lib.hid b1
  have B3 := Lib.hid b3
  have m2 := b1.cell 2
  simp only [List.getElem?_toArray, List.getElem?_cons_succ, List.getElem?_cons_zero] at m2
  have SW : Hid (w.heap.size ≤ s) := Lib.hid (by omega)
  have D0 := Lib.hid d0
  have D1 := Lib.hid d1
  have D2 := Lib.hid d2
  have D3 := Lib.hid d3
  have BL := Lib.hid hbl
  have i1 : (k : Int) < (M.all.length : Int) := by omega
  have i2 : ¬ (k : Int) < 0 := by omega
  clear hv hn hb b1 b2 b3 he hc d0 d1 d2 d3 hbl
  go_enter Try.func40, Try.ntmps40
  go_upto_region 1 with (fail)
  rw [← hw, ← hs, ← hp, ← hg]
  clear hw hs hp hg
  go_upto_region 2 with (go_at_call 66; refine IX.out.mono ?_; rintro e w4 ⟨rfl, hb⟩; have HB := Lib.hid hb; clear hb)
  have B4 := Lib.hid (B3.out.below HB.out)
  have BG4 := Lib.hid (B1.out.below HB.out)
  have BW4 := Lib.hid (BW.out.call HB.out)
  have k0 := B4.out.cell 0
  have k1 := B4.out.cell 1
  have k2 := B4.out.cell 2
  have k3 := B4.out.cell 3
  have k4 := B4.out.cell 4
  have n2 := BG4.out.cell 2
  simp only [List.getElem?_toArray, List.getElem?_cons_succ, List.getElem?_cons_zero] at k0 k1 k2 k3 k4 n2
  have f0 := B4.out.frozen 0
  have f1 := B4.out.frozen 1
  have f2 := B4.out.frozen 2
  have f3 := B4.out.frozen 3
  have f4 := B4.out.frozen 4
  have e0 := (BW4.out.1.cell (p := ⟨b, _, none⟩) BL.out).trans D0.out
  have e1 := (BW4.out.1.cell (p := ⟨b, _, none⟩) BL.out).trans D1.out
  have e2 := (BW4.out.1.cell (p := ⟨b, _, none⟩) BL.out).trans D2.out
  have e3 := (BW4.out.1.cell (p := ⟨b, _, none⟩) BL.out).trans D3.out
  unfold idxI
  clear m2
  go_wp2_with fail
  obtain ⟨w5, hw5, bw5, _, b5⟩ := put5 B4.out BW4.out SW.out (.int .i64 V.b) (.slice Ae V.e.length ce) (.slice Ac V.c.length cc) (.int .i64 V.p) (.int .i64 (k : Int))
  rw [← hw5]
  refine bodyPost_ret (results_p2 rfl _ _ _ rfl rfl b5) rfl ?_
  exact ⟨_, _, rfl, ES.out.below bw5.1, CS.out.below bw5.1, bw5.1⟩
end Go.Proofs.Ytdahhnefcageeaa
