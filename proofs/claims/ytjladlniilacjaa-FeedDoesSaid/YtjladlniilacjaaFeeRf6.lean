/-
  The document's answer for feed (guillocheref18): Pop (written by makers/feerf6.py).
-/
import Derived.Test.YtjladlniilacjaaFeeRf5
namespace Go.Proofs.Ytjladlniilacjaa
open Go.RowKit Go.Proofs.Fee
set_option linter.unusedVariables false
set_option linter.unusedSimpArgs false
theorem elemNt : Try.prog.underlying 72 = some (.slice 63) := by kernel_rfl
theorem sizeNt (W : World) : (sizeOf (Try.prog.elem 72)).run Try.prog W = .ok 5 W := by kernel_rfl
set_option maxRecDepth 100000 in
theorem ntc_low (b o m cap l : Nat) (hl : l ≤ m) (W : World) : (Instr.slice 72 (.slice (some ⟨b, o, none⟩) m cap) (some (.int .i64 (l : Int))) none none).run Try.prog W = .ok (.slice (if cap = l then some ⟨b, o, none⟩ else some ⟨b, o + l * 5, none⟩) (m - l) (cap - l)) W := by
  rw [run_slice_l W 72 (some ⟨b, o, none⟩) m cap elemNt .i64 (l : Int) (by omega) (by omega), sizeNt]
  simp only [Result.andThen, sliced, Int.toNat_natCast, Option.map_some, Addr.add_mid]
theorem Chs.set {w w' : World} {v : Value} {cs : List Chg} {r : Nat} {T : TypeId} {c0 : Array Value} (h : Chs w v cs) (hb : Blk w r T c0) (hT : T ≠ 142) (F : Far (fun j => j = r) w w') : Chs w' v cs :=
  h.same (fun g c hg => F.block g hg.lt (fun e => hT (by subst e; exact blk_type hb hg)))
theorem results_pop3 {fn : Func} {s5 s6 s7 : Tmp} (h : fn.results = #[.cell s5 58, .cell s6 63, .tmp s7]) (tmps : Array Value) (w : World) (g g' : Nat) (h5 : tmps[s5]?.getD undef = .pointer (some ⟨g, 0, none⟩)) (h6 : tmps[s6]?.getD undef = .pointer (some ⟨g', 0, none⟩)) {x : Value} (h7 : tmps[s7]?.getD undef = x)
    {T : TypeId} {a b a0 a1 a2 a3 a4 : Value} (hf : Blk w g T #[a, b]) (k : Blk w g' 63 #[a0, a1, a2, a3, a4]) :
    (results fn tmps).run Try.prog w = .ok (.tuple #[.agg #[a, b], .agg #[a0, a1, a2, a3, a4], x]) w := by
  simp [results, h, h5, h6, h7, loadVar, isAggF, isAggN, asAddr, cellsF, load_two hf, load_ntc k, Result.andThen]
theorem blk5 {w : World} {g : Nat} {T : TypeId} {a b c d e : Value} (h : Blk w g T #[a, b, c, d, e]) : w.cell? ⟨g, 0, none⟩ = some a ∧ w.cell? ⟨g, 1, none⟩ = some b ∧ w.cell? ⟨g, 2, none⟩ = some c ∧ w.cell? ⟨g, 3, none⟩ = some d ∧ w.cell? ⟨g, 4, none⟩ = some e ∧ w.frozen? ⟨g, 0, none⟩ = false ∧ w.frozen? ⟨g, 1, none⟩ = false ∧ w.frozen? ⟨g, 2, none⟩ = false ∧ w.frozen? ⟨g, 3, none⟩ = false ∧ w.frozen? ⟨g, 4, none⟩ = false :=
  ⟨by rw [h.cell]; rfl, by rw [h.cell]; rfl, by rw [h.cell]; rfl, by rw [h.cell]; rfl, by rw [h.cell]; rfl, h.frozen 0, h.frozen 1, h.frozen 2, h.frozen 3, h.frozen 4⟩
def sets5 (w : World) (g : Nat) (a b c d e : Value) : World := ((((w.setCell ⟨g, 0, none⟩ a).setCell ⟨g, 1, none⟩ b).setCell ⟨g, 2, none⟩ c).setCell ⟨g, 3, none⟩ d).setCell ⟨g, 4, none⟩ e
theorem set5 {w w0 : World} {g B : Nat} {T : TypeId} {a0 b0 c0 d0 e0 : Value} (h : Blk w g T #[a0, b0, c0, d0, e0]) (hB : Bl B w0 w) (hg : B ≤ g) (a b c d e : Value) :
    Blk (sets5 w g a b c d e) g T #[a, b, c, d, e] ∧ Bl B w0 (sets5 w g a b c d e) ∧ Far (fun i => i = g) w (sets5 w g a b c d e) := by
  unfold sets5
  refine ⟨by have := ((((h.set 0 a).set 1 b).set 2 c).set 3 d).set 4 e; simpa using this, ((((hB.setCell (p := ⟨g, 0, none⟩) hg a).setCell (p := ⟨g, 1, none⟩) hg b).setCell (p := ⟨g, 2, none⟩) hg c).setCell (p := ⟨g, 3, none⟩) hg d).setCell (p := ⟨g, 4, none⟩) hg e,
    (((((Far.refl (fun i => i = g) w).setCell (p := ⟨g, 0, none⟩) (fun _ => rfl) a).setCell (p := ⟨g, 1, none⟩) (fun _ => rfl) b).setCell (p := ⟨g, 2, none⟩) (fun _ => rfl) c).setCell (p := ⟨g, 3, none⟩) (fun _ => rfl) d).setCell (p := ⟨g, 4, none⟩) (fun _ => rfl) e⟩
theorem none_lit (W : World) (T : TypeId) (k : Nat) : (W.alloc (.cells #[] T)).ownsRow W.heap.size T k (.slice (some ⟨W.heap.size, 0, none⟩) 0 0) 0 [] :=
  ⟨by simp, .inr ⟨W.heap.size, 0, #[], rfl, Nat.le_refl _, (by show (W.heap.push _)[W.heap.size]? = some _; simp), Nat.le_refl _, by simp [maxLen], by simp, by simp⟩⟩
theorem one_flatN {ys : List (Ntc × Value)} (h : ∀ y ∈ ys, ∃ A n c, y.2 = .slice A n c) : ∀ v ∈ flatN ys, v.oneCell' = true := by
  intro v hv
  obtain ⟨y, hy, hv⟩ := List.mem_flatMap.1 hv
  obtain ⟨A, n, c, e⟩ := h y hy
  unfold cellN at hv
  rw [e] at hv
  exact cellN_one y.1 A n c v hv
set_option maxRecDepth 100000 in
set_option maxHeartbeats 1000000 in
theorem rfpop_any {N : Nat → Prop} {w : World} {v : Value} {t : Tbl} (hN : ∀ k, w.heap.size ≤ k → N k) (h : Rf N w v t) (ok : t.Ok) (z : Int) (s : Int) (hl : t.rows.length ≤ 1000) :
    Calls Try.prog 58 #[.agg #[.int .i64 z, v], .int .i64 s] w fun e w' => ∃ v' A6 n6 c6, e = .returned (.tuple #[.agg #[.int .i64 z, v'], .agg #[.int .i64 (t.pop s).2.1.ses, .int .i64 (t.pop s).2.1.err, .int .i64 (t.pop s).2.1.block, .string (t.pop s).2.1.root, .slice A6 n6 c6], .bool (t.pop s).2.2]) ∧ Rf N w' v' (t.pop s).1 ∧ Chs w' (.slice A6 n6 c6) (t.pop s).2.1.chs ∧ Below w.heap.size w w' := by
  obtain ⟨A, n, c, rfl⟩ := h.shape
  have b0 := ((((Bl.start w).alloc (.cells #[.int .i64 z, .slice A n c] 58)).alloc (.cells #[.int .i64 0, .slice none 0 0] 58)).alloc (.cells #[.int .i64 0, .int .i64 0, .int .i64 0, .string ⟨#[]⟩, .slice none 0 0] 63))
  have HN := Lib.hid hN
  have H0 := Lib.hid h
  have OK := Lib.hid ok
  have H1 := Lib.hid ((h.but (Below.refl _ _) (r := w.heap.size + 1 + 1) (by omega)).but b0.1 (r := w.heap.size + 1) (by omega))
  have BK := Lib.hid (((Blk.new w 58 #[.int .i64 z, .slice A n c]).alloc (.cells #[.int .i64 0, .slice none 0 0] 58)).alloc (.cells #[.int .i64 0, .int .i64 0, .int .i64 0, .string ⟨#[]⟩, .slice none 0 0] 63))
  have BR := Lib.hid (by have := (Blk.new (w.alloc (.cells #[.int .i64 z, .slice A n c] 58)) 58 #[.int .i64 0, .slice none 0 0]).alloc (.cells #[.int .i64 0, .int .i64 0, .int .i64 0, .string ⟨#[]⟩, .slice none 0 0] 63); rwa [World.size_alloc] at this)
  have BN := Lib.hid (by have := Blk.new ((w.alloc (.cells #[.int .i64 z, .slice A n c] 58)).alloc (.cells #[.int .i64 0, .slice none 0 0] 58)) 63 #[.int .i64 0, .int .i64 0, .int .i64 0, .string ⟨#[]⟩, .slice none 0 0]; rwa [World.size_alloc, World.size_alloc] at this)
  have B0 := Lib.hid b0
  have SZ : Hid ((((w.alloc (.cells #[.int .i64 z, .slice A n c] 58)).alloc (.cells #[.int .i64 0, .slice none 0 0] 58)).alloc (.cells #[.int .i64 0, .int .i64 0, .int .i64 0, .string ⟨#[]⟩, .slice none 0 0] 63)).heap.size = w.heap.size + 1 + 1 + 1) := Lib.hid (by simp)
  clear h b0 hN ok
  go_enter Try.func58, Try.ntmps58
  go_wp2_with fail
  generalize ((w.alloc (.cells #[.int .i64 z, .slice A n c] 58)).alloc (.cells #[.int .i64 0, .slice none 0 0] 58)).alloc (.cells #[.int .i64 0, .int .i64 0, .int .i64 0, .string ⟨#[]⟩, .slice none 0 0] 63) = w1 at *
  refine (rfat_any H1.out z s hl).mono ?_
  rintro e w2 ⟨x, rfl, hx, lx, hb⟩
  obtain ⟨xf, xq, xv⟩ := x
  obtain ⟨B, cx, hxv⟩ := lx.shape
  simp only at hxv
  subst hxv
  have HX := Lib.hid hx
  have LX := Lib.hid lx
  have B2 := Lib.hid (B0.out.call hb)
  have H2 := Lib.hid (H1.out.below hb)
  have BK2 := Lib.hid (BK.out.below hb)
  have BR2 := Lib.hid (BR.out.below hb)
  have BN2 := Lib.hid (BN.out.below hb)
  have SZ2 : Hid (w.heap.size + 1 + 1 + 1 ≤ w2.heap.size) := Lib.hid (by have := hb.size; rw [SZ.out] at this; exact this)
  clear hx lx hb H1 BK BR BN B0 SZ
  dsimp only
  have B3 := Lib.hid (B2.out.alloc (.cells #[.int .i64 s, .bool xf, .slice B xq.length cx] 74))
  have BK3 := Lib.hid (BK2.out.alloc (.cells #[.int .i64 s, .bool xf, .slice B xq.length cx] 74))
  have BR3 := Lib.hid (BR2.out.alloc (.cells #[.int .i64 s, .bool xf, .slice B xq.length cx] 74))
  have BN3 := Lib.hid (BN2.out.alloc (.cells #[.int .i64 s, .bool xf, .slice B xq.length cx] 74))
  have BX3 := Lib.hid (Blk.new w2 74 #[.int .i64 s, .bool xf, .slice B xq.length cx])
  have D3 := Lib.hid ((Bl.start w2).alloc (.cells #[.int .i64 s, .bool xf, .slice B xq.length cx] 74))
  clear BK2 BR2 BN2
  obtain ⟨x0, x1, x2, -, -, fx⟩ := blk3 BX3.out
  obtain ⟨k0, k1, -, -⟩ := blk2 BK3.out
  have QT : Hid ((t.row s).q = xq.map Prod.fst) := Lib.hid (by rw [← HX.out]; rfl)
  have FT : Hid (t.fol s = xf) := Lib.hid (by unfold Tbl.fol; rw [← HX.out]; rfl)
  cases xq with
  | nil =>
    have ES : Hid (t.pop s = (t, n0, false)) := Lib.hid (pop_none QT.out)
    obtain ⟨r0, r1, fr0, fr1⟩ := blk2 BR3.out
    obtain ⟨m0, m1, m2, m3, m4, fm0, fm1, fm2, fm3, fm4⟩ := blk5 BN3.out
    simp only [List.length_nil] at x2 BX3 B3 BK3 BR3 BN3 D3 x0 x1 k0 k1 fx r0 r1 fr0 fr1 m0 m1 m2 m3 m4 fm0 fm1 fm2 fm3 fm4 ⊢
    go_wp2_with fail
    obtain ⟨q1, q2, q3⟩ := set2 BR3.out B3.out (Nat.le_succ _) (.int .i64 z) (.slice A n c)
    obtain ⟨p1, p2, p3⟩ := set5 (BN3.out.far q3 (by omega)) q2 (by omega) (.int .i64 0) (.int .i64 0) (.int .i64 0) (.string ⟨#[]⟩) (.slice none 0 0)
    exact bodyPost_ret (results_pop3 rfl _ _ _ _ rfl rfl rfl (q1.far p3 (by omega)) p1) rfl ⟨.slice A n c, none, 0, 0, by rw [ES.out]; rfl, by rw [ES.out]; exact H0.out.below p2.1, by rw [ES.out]; exact .inl ⟨rfl, rfl⟩, p2.1⟩
  | cons y ys =>
    obtain ⟨nt, vc⟩ := y
    obtain ⟨AC, nc, cc, hvc⟩ := (LX.out.chs _ (List.mem_cons_self ..)).slice
    simp only at hvc
    subst hvc
    have ES : Hid (t.pop s = ((t.put s ⟨t.fol s, ys.map Prod.fst⟩).tidy s, nt, true)) := Lib.hid (pop_some (by rw [QT.out]; rfl))
    obtain ⟨A', c', hv', hle, hsh⟩ := LX.out.sl
    cases hv'
    rcases hsh with hsh | ⟨b, o, rfl, hbl, hNb, hcells⟩
    · simp [flatN, cellN] at hsh
    · have HCE := Lib.hid hcells
      have HLE : Hid (ys.length + 1 ≤ cx) := Lib.hid (by simpa using hle)
      have d0 : (w2.alloc (.cells #[.int .i64 s, .bool xf, .slice (some ⟨b, o, none⟩) (ys.length + 1) cx] 74)).cell? ⟨b, o, none⟩ = some (.int .i64 nt.ses) := (D3.out.1.cell (p := ⟨b, _, none⟩) hbl).trans (hcells 0 _ rfl)
      have d1 : (w2.alloc (.cells #[.int .i64 s, .bool xf, .slice (some ⟨b, o, none⟩) (ys.length + 1) cx] 74)).cell? ⟨b, o + 1, none⟩ = some (.int .i64 nt.err) := (D3.out.1.cell (p := ⟨b, _, none⟩) hbl).trans (hcells 1 _ rfl)
      have d2 : (w2.alloc (.cells #[.int .i64 s, .bool xf, .slice (some ⟨b, o, none⟩) (ys.length + 1) cx] 74)).cell? ⟨b, o + 2, none⟩ = some (.int .i64 nt.block) := (D3.out.1.cell (p := ⟨b, _, none⟩) hbl).trans (hcells 2 _ rfl)
      have d3 : (w2.alloc (.cells #[.int .i64 s, .bool xf, .slice (some ⟨b, o, none⟩) (ys.length + 1) cx] 74)).cell? ⟨b, o + 3, none⟩ = some (.string nt.root) := (D3.out.1.cell (p := ⟨b, _, none⟩) hbl).trans (hcells 3 _ rfl)
      have d4 : (w2.alloc (.cells #[.int .i64 s, .bool xf, .slice (some ⟨b, o, none⟩) (ys.length + 1) cx] 74)).cell? ⟨b, o + 4, none⟩ = some (.slice AC nc cc) := (D3.out.1.cell (p := ⟨b, _, none⟩) hbl).trans (hcells 4 _ rfl)
      clear hcells hle
      simp only [List.length_cons] at x2 BX3 B3 BK3 BR3 BN3 D3 x0 x1 k0 k1 fx ⊢
      obtain ⟨M, hM⟩ : ∃ M, M = ys.length + 1 := ⟨_, rfl⟩
      rw [← hM] at x2 BX3 B3 BK3 BR3 BN3 D3 x0 x1 k0 k1 fx d0 d1 d2 d3 d4 HLE ⊢
      have z0 : ((M : Int) == 0) = false := by simp; omega
      have z1 : (0 : Int) < (M : Int) := by omega
      have z2 : ¬ (M : Int) = 0 := by omega
      have HM := Lib.hid hM
      clear hM
      go_upto_region 5 with (fail)
      have BK4 := Lib.hid (BK3.out.alloc (.cells #[.int .i64 nt.ses, .int .i64 nt.err, .int .i64 nt.block, .string nt.root, .slice AC nc cc] 63))
      have BR4 := Lib.hid (BR3.out.alloc (.cells #[.int .i64 nt.ses, .int .i64 nt.err, .int .i64 nt.block, .string nt.root, .slice AC nc cc] 63))
      have BN4 := Lib.hid (BN3.out.alloc (.cells #[.int .i64 nt.ses, .int .i64 nt.err, .int .i64 nt.block, .string nt.root, .slice AC nc cc] 63))
      have BX4 := Lib.hid (BX3.out.alloc (.cells #[.int .i64 nt.ses, .int .i64 nt.err, .int .i64 nt.block, .string nt.root, .slice AC nc cc] 63))
      have B4 := Lib.hid (B3.out.alloc (.cells #[.int .i64 nt.ses, .int .i64 nt.err, .int .i64 nt.block, .string nt.root, .slice AC nc cc] 63))
      have D4 := Lib.hid (D3.out.alloc (.cells #[.int .i64 nt.ses, .int .i64 nt.err, .int .i64 nt.block, .string nt.root, .slice AC nc cc] 63))
      have BY4 := Lib.hid (by have := Blk.new (w2.alloc (.cells #[.int .i64 s, .bool xf, .slice (some ⟨b, o, none⟩) M cx] 74)) 63 #[.int .i64 nt.ses, .int .i64 nt.err, .int .i64 nt.block, .string nt.root, .slice AC nc cc]; rwa [World.size_alloc] at this)
      have SZ4 : Hid (((w2.alloc (.cells #[.int .i64 s, .bool xf, .slice (some ⟨b, o, none⟩) M cx] 74)).alloc (.cells #[.int .i64 nt.ses, .int .i64 nt.err, .int .i64 nt.block, .string nt.root, .slice AC nc cc] 63)).heap.size = w2.heap.size + 1 + 1) := Lib.hid (by simp)
      generalize (w2.alloc (.cells #[.int .i64 s, .bool xf, .slice (some ⟨b, o, none⟩) M cx] 74)).alloc (.cells #[.int .i64 nt.ses, .int .i64 nt.err, .int .i64 nt.block, .string nt.root, .slice AC nc cc] 63) = w4 at *
      clear d0 d1 d2 d3 d4 x0 x1 x2 fx k0 k1 BK3 BR3 BN3 BX3 B3 D3
      obtain ⟨g, hg⟩ : ∃ g, g = w2.heap.size := ⟨_, rfl⟩
      rw [← hg] at BX4 BY4 SZ4 D4 SZ2 ⊢
      have HG := Lib.hid hg
      have HBL := Lib.hid hbl
      obtain ⟨oo, hoo⟩ : ∃ q, q = if cx = 1 then o else o + 1 * 5 := ⟨_, rfl⟩
      have s1 : ∀ W : World, (Instr.slice 72 (.slice (some ⟨b, o, none⟩) M cx) (some (.int .i64 1)) none none).run Try.prog W = .ok (.slice (some ⟨b, oo, none⟩) (M - 1) (cx - 1)) W := fun W => by
        have := ntc_low b o M cx 1 (by have := HM.out; omega) W
        rw [show (if cx = 1 then (some ⟨b, o, none⟩ : Option Addr) else some ⟨b, o + 1 * 5, none⟩) = some ⟨b, oo, none⟩ by rw [hoo]; split <;> rfl] at this
        rw [← this]
        rfl
      have FC : Hid (∀ W : World, Below w4.heap.size w4 W → ∀ j y, (flatN ys)[j]? = some y → W.cell? ⟨b, oo + j, none⟩ = some y) := Lib.hid (fun W hW j y hj => by
        have hjl := (List.getElem?_eq_some_iff.1 hj).1
        rw [flatN_length] at hjl
        have hc1 : ¬ cx = 1 := by have := HM.out; have := HLE.out; omega
        have e := HCE.out (5 + j) y (by
          show (cellN (nt, .slice AC nc cc) ++ flatN ys)[5 + j]? = some y
          rw [List.getElem?_append_right (by simp [cellN])]
          simpa [cellN] using hj)
        rw [hoo, if_neg hc1, show o + 1 * 5 + j = o + (5 + j) by omega]
        have hb4 : b < w4.heap.size := by have := HBL.out; have := HG.out; rw [SZ4.out]; omega
        exact ((hW.cell (p := ⟨b, _, none⟩) hb4).trans (D4.out.1.cell (p := ⟨b, _, none⟩) (by have := HBL.out; have := HG.out; show b < g; omega))).trans e)
      have FL : Hid ((flatN ys).length = (M - 1) * 5) := Lib.hid (by rw [flatN_length, HM.out]; simp)
      have ON := Lib.hid (one_flatN (ys := ys) (fun y hy => (LX.out.chs y (List.mem_cons_of_mem _ hy)).slice))
      have ML : Hid (M ≤ 6) := Lib.hid (by
        have h1 := OK.out.row s
        unfold Row.Ok at h1
        rw [QT.out, List.length_map, List.length_cons] at h1
        have := OK.out.room
        have := HM.out
        omega)
      have NL := Lib.hid (none_lit w4 63 5)
      have N1 : Hid (0 + (M - 1) ≤ 1000000) := Lib.hid (by have := ML.out; omega)
      have N2 : Hid (w4.heap.size ≤ (w4.alloc (.cells #[] 63)).heap.size) := Lib.hid (by simp)
      have EA : Hid (Below w4.heap.size w4 (w4.alloc (.cells #[] 63))) := Lib.hid ((Below.refl _ _).alloc (Nat.le_refl _) _)
      have BA : Hid (Bl w4.heap.size w4 (w4.alloc (.cells #[] 63))) := Lib.hid ((Bl.start w4).alloc _)
      have x2 : (w4.alloc (.cells #[] 63)).cell? ⟨g, 2, none⟩ = some (.slice (some ⟨b, o, none⟩) M cx) := by rw [(BX4.out.alloc _).cell]; rfl
      clear hoo hg hbl hNb
      go_upto_region 6 with (at_builtin; (refine wpList_append_own (k := 5) (T := 63) (S := 72) elemNt infoNtcs rfl (by decide) (by decide) rfl _ _ rfl rfl w4.heap.size _ _ [] b oo (M - 1) (cx - 1) (flatN ys) rfl rfl NL.out FL.out (FC.out _ EA.out) ON.out N1.out N2.out ?_; intro v6 w6 own6 gr6 ob6; clear ob6; rw [List.nil_append, Nat.zero_add] at own6; have b6 := BA.out.grownRow NL.out (Nat.le_refl _) gr6; have B6 := Lib.hid b6; have O6 := Lib.hid own6; obtain ⟨A6, c6, hv6⟩ := own_shape own6; subst hv6; obtain ⟨y0, y1, y2, fy0, fy1, fy2⟩ := blk3 (BX4.out.below b6.1); clear own6 gr6 b6))
      have B7 : Hid (Bl w.heap.size w (w6.setCell ⟨g, 2, none⟩ (.slice A6 (M - 1) c6)).drew) := Lib.hid (((B4.out.call B6.out.1).setCell (p := ⟨g, 2, none⟩) (by have := SZ2.out; show w.heap.size ≤ g; omega) (.slice A6 (M - 1) c6)).drewN 1)
      have D7 : Hid (Bl g w2 (w6.setCell ⟨g, 2, none⟩ (.slice A6 (M - 1) c6)).drew) := Lib.hid (((D4.out.call B6.out.1).setCell (p := ⟨g, 2, none⟩) (Nat.le_refl _) (.slice A6 (M - 1) c6)).drewN 1)
      have BK7 : Hid (Blk (w6.setCell ⟨g, 2, none⟩ (.slice A6 (M - 1) c6)).drew w.heap.size 58 #[.int .i64 z, .slice A n c]) := Lib.hid ((BK4.out.below B6.out.1).other (p := ⟨g, 2, none⟩) (by have := SZ2.out; show w.heap.size ≠ g; omega) _)
      have BR7 : Hid (Blk (w6.setCell ⟨g, 2, none⟩ (.slice A6 (M - 1) c6)).drew (w.heap.size + 1) 58 #[.int .i64 0, .slice none 0 0]) := Lib.hid ((BR4.out.below B6.out.1).other (p := ⟨g, 2, none⟩) (by have := SZ2.out; show w.heap.size + 1 ≠ g; omega) _)
      have BN7 : Hid (Blk (w6.setCell ⟨g, 2, none⟩ (.slice A6 (M - 1) c6)).drew (w.heap.size + 1 + 1) 63 #[.int .i64 0, .int .i64 0, .int .i64 0, .string ⟨#[]⟩, .slice none 0 0]) := Lib.hid ((BN4.out.below B6.out.1).other (p := ⟨g, 2, none⟩) (by have := SZ2.out; show w.heap.size + 1 + 1 ≠ g; omega) _)
      have BY7 : Hid (Blk (w6.setCell ⟨g, 2, none⟩ (.slice A6 (M - 1) c6)).drew (g + 1) 63 #[.int .i64 nt.ses, .int .i64 nt.err, .int .i64 nt.block, .string nt.root, .slice AC nc cc]) := Lib.hid ((BY4.out.below B6.out.1).other (p := ⟨g, 2, none⟩) (by show g + 1 ≠ g; omega) _)
      have BX7 : Hid (Blk (w6.setCell ⟨g, 2, none⟩ (.slice A6 (M - 1) c6)).drew g 74 #[.int .i64 s, .bool xf, .slice A6 (M - 1) c6]) := Lib.hid (by have := (BX4.out.below B6.out.1).set 2 (.slice A6 (M - 1) c6); simp at this; exact this)
      have F7 : Far (fun j => j = g) w6 (w6.setCell ⟨g, 2, none⟩ (.slice A6 (M - 1) c6)) := (Far.refl (fun j => j = g) w6).setCell (p := ⟨g, 2, none⟩) (fun _ => rfl) _
      have O7 : Hid ((w6.setCell ⟨g, 2, none⟩ (.slice A6 (M - 1) c6)).drew.ownsRow w4.heap.size 63 5 (.slice A6 (M - 1) c6) (M - 1) (flatN ys)) := Lib.hid (own_drewN (by
        have h1 := own_far O6.out F7 (fun b hb e => by have := (O6.out.lt b hb).1; have := SZ4.out; omega)
        exact h1) 1)
      have LE7 : Hid (M - 1 = ys.length) := Lib.hid (by have := HM.out; omega)
      clear F7
      generalize w6.setCell ⟨g, 2, none⟩ (.slice A6 (M - 1) c6) = w7 at *
      have LX7 : Hid (Lx (fun b => (N b ∧ b ≠ w.heap.size + 1 + 1) ∧ b ≠ w.heap.size + 1) w7.drew (⟨xf, ys, .slice A6 (M - 1) c6⟩ : Rx)) := Lib.hid (by
        obtain ⟨A', c', h1, h2, h3⟩ := Sh.of_own (N := fun b => (N b ∧ b ≠ w.heap.size + 1 + 1) ∧ b ≠ w.heap.size + 1) O7.out (fun b hb => by
          have := SZ4.out; have := SZ2.out
          exact ⟨⟨HN.out b (by omega), by omega⟩, by omega⟩)
        refine ⟨⟨A', c', ?_, by rw [← LE7.out]; exact h2, h3⟩, fun y hy => ((LX.out.chs y (List.mem_cons_of_mem _ hy)).below (by have := D7.out.1; rw [HG.out] at this; exact this))⟩
        rw [← LE7.out]
        exact h1)
      have H7 : Hid (Rf (fun b => (N b ∧ b ≠ w.heap.size + 1 + 1) ∧ b ≠ w.heap.size + 1) w7.drew (.slice A n c) t) := Lib.hid (H2.out.below (by have := D7.out.1; rw [HG.out] at this; exact this))
      have WI := Lib.hid (rfwith_any (x := ⟨xf, ys, .slice A6 (M - 1) c6⟩) (fun k hk => by
        have := B7.out.2; have := D7.out.2; have := SZ2.out
        exact ⟨⟨HN.out k (by omega), by omega⟩, by omega⟩) H7.out OK.out.up LX7.out z s hl)
      have RE : Hid ((t.pop s).1 = withF t s (Rx.row ⟨xf, ys, .slice A6 (M - 1) c6⟩)) := Lib.hid (by rw [ES.out, withF_tidy OK.out.up, FT.out]; rfl)
      have HC7 : Hid (Chs w7.drew (.slice AC nc cc) nt.chs) := Lib.hid ((LX.out.chs _ (List.mem_cons_self ..)).below (by have := D7.out.1; rw [HG.out] at this; exact this))
      clear y0 y1 y2 fy0 fy1 fy2 BK4 BR4 BN4 BX4 BY4 B4 D4
      obtain ⟨k0, k1, -, -⟩ := blk2 BK7.out
      obtain ⟨x0, x1, x2', -, -, -⟩ := blk3 BX7.out
      obtain ⟨n0', n1', n2', n3', n4', -⟩ := blk5 BY7.out
      have gn1 : ¬ g = w.heap.size := by have := SZ2.out; omega
      have gn2 : ¬ g = w.heap.size + 1 := by have := SZ2.out; omega
      have gn3 : ¬ g + 1 = w.heap.size + 1 := by omega
      have gn4 : ¬ g + 1 = w.heap.size + 1 + 1 := by omega
      have gn5 : ¬ w.heap.size + 1 = g + 1 := by omega
      have gn6 : ¬ w.heap.size = g := by omega
      go_region_with (go_at_call 71; (with_reducible refine WI.out.mono ?_); rintro e w8 ⟨v8, rfl, h8, hb8⟩; (obtain ⟨A8, n8, c8, hv8⟩ := h8.shape); subst hv8; (have BR8 := Lib.hid (BR7.out.below hb8)); (have BN8 := Lib.hid (BN7.out.below hb8)); (have BY8 := Lib.hid (BY7.out.below hb8)); (have B8 := Lib.hid (B7.out.call hb8)); (have H8 := Lib.hid h8); (have HC8 := Lib.hid (HC7.out.below hb8)); clear h8 hb8; (obtain ⟨r0, r1, fr0, fr1⟩ := blk2 BR8.out); (obtain ⟨m0, m1, m2, m3, m4, fm0, fm1, fm2, fm3, fm4⟩ := blk5 BN8.out); (obtain ⟨q0, q1, q2, q3, q4, -⟩ := blk5 BY8.out))
      all_goals
        obtain ⟨u1, u2, u3⟩ := set2 BR8.out B8.out (Nat.le_succ _) (.int .i64 z) (.slice A8 n8 c8)
        obtain ⟨p1, p2, p3⟩ := set5 (BN8.out.far u3 (by omega)) u2 (by omega) (.int .i64 nt.ses) (.int .i64 nt.err) (.int .i64 nt.block) (.string nt.root) (.slice AC nc cc)
        have U1 := Lib.hid (u1.far p3 (by omega))
        have HR := Lib.hid ((H8.out.set BR8.out (by decide) u3).set (BN8.out.far u3 (by omega)) (by decide) p3)
        have HC := Lib.hid ((HC8.out.set BR8.out (by decide) u3).set (BN8.out.far u3 (by omega)) (by decide) p3)
        have P1 := Lib.hid p1
        have P2 := Lib.hid p2
        obtain ⟨W9, hW9⟩ : ∃ W, W = sets5 ((w8.setCell ⟨w.heap.size + 1, 0, none⟩ (.int .i64 z)).setCell ⟨w.heap.size + 1, 1, none⟩ (.slice A8 n8 c8)) (w.heap.size + 1 + 1) (.int .i64 nt.ses) (.int .i64 nt.err) (.int .i64 nt.block) (.string nt.root) (.slice AC nc cc) := ⟨_, rfl⟩
        rw [← hW9] at U1 HR HC P1 P2
        unfold sets5 at hW9
        rw [← hW9]
        clear hW9 u1 u2 u3 p1 p2 p3 r0 r1 fr0 fr1 m0 m1 m2 m3 m4 fm0 fm1 fm2 fm3 fm4 q0 q1 q2 q3 q4 k0 k1 x0 x1 x2' n0' n1' n2' n3' n4'
        simp only [Act.put, List.getElem_toArray, List.getElem_cons_succ, List.getElem_cons_zero, List.setIfInBounds_toArray, List.set_cons_zero, List.set_cons_succ]
        unfold Exit.then
        dsimp only
        apply_assumption
        refine wp_ret ?_
        show bodyPost _ _ _ _ _ _
        refine bodyPost_ret (results_pop3 rfl _ _ _ _ rfl rfl rfl U1.out P1.out) rfl ⟨.slice A8 n8 c8, AC, nc, cc, by rw [ES.out]; rfl, ?_, ?_, P2.out.1⟩
        · rw [RE.out]
          exact HR.out
        · rw [ES.out]
          exact HC.out
end Go.Proofs.Ytjladlniilacjaa
