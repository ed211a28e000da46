/-
  Package feed: Unsubscribe, Pop.
-/
import Derived.Test.YtjladlniilacjaaFeeOps
import Derived.Test.YtjladlniilacjaaDelNtcs
import Derived.Handy
namespace Go.Proofs.Ytjladlniilacjaa
open Go.RowKit Go.Shelf Go.Proofs.Fee
set_option linter.unusedVariables false
set_option linter.unusedSimpArgs false
section
variable {B m mp : Nat} {t : Tbl} {rs : Keyz Rw} {w : World}
theorem Fd.isSome (h : Fd B m mp t rs w) (s : Int) : (atK rs s).isSome = (atK t.rows s).isSome := by rw [h.at_]; simp
theorem put_some (t : Tbl) (hu : Up t.rows) (s : Int) (r : Row) : (atK (t.put s r).rows s).isSome = true := by
  show (atK (putK t.rows s r) s).isSome = true
  rw [atK_put hu, if_pos rfl]; rfl
set_option maxHeartbeats 2000000 in
theorem unsub_any (h : Fd B m mp t rs w) (s : Int) (hs : wfI s) :
    Calls Try.prog 53 #[.pointer (some ⟨m, 0, none⟩), .int .i64 s] w fun e w' => e = .returned (.bool (t.unsub s).2) ∧ Fs B m mp rs w (t.unsub s).1 w' := by
  have FO := Lib.hid (follows_any h s hs)
  have H := Lib.hid h
  cases hf : t.fol s with
  | false =>
    rw [hf] at FO
    have HS : Hid (t.unsub s = (t, false)) := Lib.hid (by unfold Tbl.unsub; rw [hf]; rfl)
    rw [HS.out]
    clear h hf
    go_enter Try.func53, Try.ntmps53
    go_wp2_with (go_at_call 36; refine FO.out.mono ?_; rintro e w' ⟨rfl, rfl⟩)
    go_ret
    exact ⟨rfl, Fs.same H.out (Below.refl _ _)⟩
  | true =>
    rw [hf] at FO
    have HS : Hid (t.unsub s = ((t.put s ⟨false, (t.row s).q⟩).tidy s, true)) := Lib.hid (by unfold Tbl.unsub; rw [hf]; rfl)
    rw [HS.out]
    have ⟨x, hx⟩ : ∃ x, atK rs s = some x := by
      cases hx : atK rs s with
      | some x => exact ⟨x, rfl⟩
      | none =>
        have := h.miss hx
        unfold Tbl.fol at hf
        rw [this] at hf
        cases hf
    obtain ⟨hm, hr, hrow, _⟩ := h.hit hx
    have hf4 := h.ok.four
    have OK := h.ok.put s hs ⟨false, (t.row s).q⟩ (h.ok.row s) (by show _ + bn false ≤ _; simp [bn]; omega)
    have FS := Lib.hid (h.set_fol hx false (by rw [hrow] at OK; exact OK))
    have c1 := h.c1
    have LK := h.look s hs
    rw [hx] at LK
    unfold Option.map ptrV at LK
    simp only at LK
    have d0 := hr.c0
    have df := hr.blk.frozen 0
    have TD : Hid (Calls Try.prog 63 #[.pointer (some ⟨m, 0, none⟩), .int .i64 s] (w.setCell ⟨x.b, 0, none⟩ (.bool false)) fun e w' => e = .returned (.tuple #[]) ∧ Fs B m mp rs w ((t.put s ⟨false, (t.row s).q⟩).tidy s) w') := Lib.hid (by
      have hu := h.ok.up
      have e1 : (t.row s).q = x.row.q := by rw [hrow]
      rw [e1]
      obtain ⟨rs', f1, f2, f3⟩ := FS.out
      refine (tidy_any f1 s hs (by rw [f1.isSome]; exact put_some t hu s _)).mono ?_
      rintro e w' ⟨he, hw⟩
      refine ⟨he, ?_⟩
      obtain ⟨rs2, g1, g2, g3⟩ := hw
      refine ⟨rs2, g1, f2.trans g2 (fun i hi e => (f3 i e).resolve_right (by omega)), fun k e => ?_⟩
      rcases g3 k e with e | e
      · exact f3 k e
      · have := f2.size; exact .inr (by omega))
    obtain ⟨xb, hxb⟩ : ∃ z, z = x.b := ⟨_, rfl⟩
    rw [← hxb] at LK d0 df TD
    obtain ⟨T2, hT2⟩ : ∃ z, z = (t.put s ⟨false, (t.row s).q⟩).tidy s := ⟨_, rfl⟩
    rw [← hT2] at TD ⊢
    clear h hf hx hm hr hrow hf4 OK FS HS hxb hT2
    go_enter Try.func53, Try.ntmps53
    go_wp2_with (first
      | (go_at_call 36; refine FO.out.mono ?_; rintro e w' ⟨rfl, rfl⟩)
      | (go_at_call 63; refine TD.out.mono ?_; rintro e w2 ⟨rfl, hw⟩; have HW := Lib.hid hw; clear hw))
    go_ret
    exact ⟨rfl, HW.out⟩
theorem own_shape {w : World} {B k n : Nat} {T : TypeId} {v : Value} {xs : List Value} (h : w.ownsRow B T k v n xs) : ∃ A c, v = .slice A n c := by
  rcases h.2 with ⟨rfl, rfl⟩ | ⟨g, cap, cur, rfl, _⟩ <;> exact ⟨_, _, rfl⟩
theorem Chs.slice {w : World} {v : Value} {cs : List Chg} (h : Chs w v cs) : ∃ A n c, v = .slice A n c := by
  rcases h with ⟨h, _⟩ | ⟨g, cap, cur, h, _⟩ <;> exact ⟨_, _, _, h⟩
theorem isAggN (w : World) : (isAgg 63).run Try.prog w = .ok true w := by kernel_rfl
/-- A notice that lies in a block. -/
theorem load_ntc {w : World} {g : Nat} {a0 a1 a2 a3 a4 : Value} (k : Blk w g 63 #[a0, a1, a2, a3, a4]) : (loadCells ⟨g, 0, none⟩ 5).run Try.prog w = .ok #[a0, a1, a2, a3, a4] w := by
  have e : ∀ k, (⟨g, 0, none⟩ : Addr).add k = ⟨g, k, none⟩ := fun k => by rw [Addr.add_mid, Nat.zero_add]
  have c0 : w.cell? ⟨g, 0, none⟩ = some a0 := by rw [k.cell]; rfl
  have c1 : w.cell? ⟨g, 1, none⟩ = some a1 := by rw [k.cell]; rfl
  have c2 : w.cell? ⟨g, 2, none⟩ = some a2 := by rw [k.cell]; rfl
  have c3 : w.cell? ⟨g, 3, none⟩ = some a3 := by rw [k.cell]; rfl
  have c4 : w.cell? ⟨g, 4, none⟩ = some a4 := by rw [k.cell]; rfl
  simp [loadCells, loadCellsFrom, c0, c1, c2, c3, c4, e, Result.andThen]
theorem results_pop {fn : Func} {s s5 : Tmp} (h : fn.results = #[.cell s 63, .tmp s5]) (tmps : Array Value) (w : World) (g : Nat) (h4 : tmps[s]?.getD undef = .pointer (some ⟨g, 0, none⟩)) {x : Value} (h5 : tmps[s5]?.getD undef = x) {a0 a1 a2 a3 a4 : Value} (k : Blk w g 63 #[a0, a1, a2, a3, a4]) :
    (results fn tmps).run Try.prog w = .ok (.tuple #[.agg #[a0, a1, a2, a3, a4], x]) w := by
  simp [results, h, h4, h5, loadVar, isAggN, asAddr, load_ntc k, Result.andThen]
theorem results_ntc {fn : Func} {s : Tmp} (h : fn.results = #[.cell s 63]) (tmps : Array Value) (w : World) (g : Nat) (h4 : tmps[s]?.getD undef = .pointer (some ⟨g, 0, none⟩)) {a0 a1 a2 a3 a4 : Value} (k : Blk w g 63 #[a0, a1, a2, a3, a4]) :
    (results fn tmps).run Try.prog w = .ok (.agg #[a0, a1, a2, a3, a4]) w := by
  simp [results, h, h4, loadVar, isAggN, asAddr, load_ntc k, Result.andThen]
/-- A block of another kind, that is none of a table's, is written. -/
theorem Fs.wrote {t' : Tbl} {w' W' : World} {g : Nat} (h : Fs B m mp rs w t' w') (hg : g < w.heap.size ∧ ¬ OwnF m mp rs g) {T : TypeId} {c : Array Value} (hb : Blk w' g T c) (hT : T ≠ 142) (F : Far (fun j => j = g) w' W') {z : World} (hz : Below z.heap.size z w) (hzg : z.heap.size ≤ g) : Fs B m mp rs z t' W' := by
  obtain ⟨rs', h1, h2, h3⟩ := h
  have hno : ¬ OwnF m mp rs' g := fun e => by
    rcases h3 g e with e | e
    · exact hg.2 e
    · omega
  refine ⟨rs', ⟨h1.ft.far F (fun k hk e => hno (e ▸ hk)) (fun k c' hk e => by
    rw [e] at hk
    exact hT (blk_type hb hk)), h1.st, h1.ok⟩, ?_, fun k hk => ?_⟩
  · have hzs := hz.size
    exact ⟨F.os.trans (h2.os.trans hz.os), F.tape.trans (h2.tape.trans hz.tape), F.output.trans (h2.output.trans hz.output), Nat.le_trans hzs (Nat.le_trans h2.size F.size), fun i hi hS => by
      have := h2.size
      rw [F.block i (by omega) (fun e => by omega), h2.block i (by omega) hS, hz.block i hi]⟩
  · rcases h3 k hk with e | e
    · exact .inl e
    · have := hz.size; exact .inr (by omega)
theorem pop_none {t : Tbl} {s : Int} (h : (t.row s).q = []) : t.pop s = (t, n0, false) := by unfold Tbl.pop; rw [h]
theorem pop_some {t : Tbl} {s : Int} {n : Ntc} {q : List Ntc} (h : (t.row s).q = n :: q) : t.pop s = ((t.put s ⟨t.fol s, q⟩).tidy s, n, true) := by unfold Tbl.pop; rw [h]
set_option maxRecDepth 100000 in
set_option maxHeartbeats 2000000 in
theorem pop_any (h : Fd B m mp t rs w) (s : Int) (hs : wfI s) :
    Calls Try.prog 39 #[.pointer (some ⟨m, 0, none⟩), .int .i64 s] w fun e w' => ∃ v, e = .returned (.tuple #[.agg (cellN ((t.pop s).2.1, v)).toArray, .bool (t.pop s).2.2]) ∧ Chs w' v (t.pop s).2.1.chs ∧ Fs B m mp rs w (t.pop s).1 w' := by
  cases hq : (t.row s).q with
  | nil =>
    rw [pop_none hq]
    have b1 : Below w.heap.size w (w.alloc (.cells #[.int .i64 0, .int .i64 0, .int .i64 0, .string ⟨#[]⟩, .slice none 0 0] 63)) := (Below.refl _ w).alloc (Nat.le_refl _) _
    have WA := Lib.hid (waiting_any (h.below b1) s hs)
    have hz : t.wait s = 0 := by unfold Tbl.wait; rw [hq]; rfl
    rw [hz] at WA
    have H := Lib.hid h
    clear h hq hz b1
    unfold cellN n0
    simp only
    go_enter Try.func39, Try.ntmps39
    go_wp2_with (go_at_call 37; refine WA.out.mono ?_; rintro e w' ⟨rfl, rfl⟩)
    go_returns
    exact ⟨.slice none 0 0, rfl, .inl ⟨rfl, rfl⟩, Fs.same H.out ((Below.refl _ w).alloc (Nat.le_refl _) _)⟩
  | cons n q =>
    rw [pop_some hq]
    have ⟨x, hx⟩ : ∃ x, atK rs s = some x := by
      cases hx : atK rs s with
      | some x => exact ⟨x, rfl⟩
      | none =>
        rw [h.miss hx] at hq
        cases hq
    have hrow := (h.hit hx).2.2.1
    have hfol : t.fol s = x.fol := by unfold Tbl.fol; rw [hrow]; rfl
    obtain ⟨vn, qs, hxq, hqs⟩ : ∃ vn qs, x.q = (n, vn) :: qs ∧ q = qs.map Prod.fst := by
      have : x.q.map Prod.fst = n :: q := by rw [← hq, hrow]; rfl
      cases hxq : x.q with
      | nil => rw [hxq] at this; cases this
      | cons p r =>
        rw [hxq] at this
        simp only [List.map_cons, List.cons.injEq] at this
        exact ⟨p.2, r, by rw [← this.1], this.2.symm⟩
    have hlen : t.wait s = qs.length + 1 := by unfold Tbl.wait; rw [hq, hqs]; simp
    have hmost : qs.length + 1 ≤ 10 := by have := h.ok.row s; unfold Row.Ok at this; unfold Tbl.wait at hlen; have := h.ok.room; omega
    obtain ⟨w1, hw1⟩ : ∃ w1, w1 = w.alloc (.cells #[.int .i64 0, .int .i64 0, .int .i64 0, .string ⟨#[]⟩, .slice none 0 0] 63) := ⟨_, rfl⟩
    have b1 : Below w.heap.size w w1 := by rw [hw1]; exact (Below.refl _ w).alloc (Nat.le_refl _) _
    have s1 : w1.heap.size = w.heap.size + 1 := by rw [hw1]; simp
    have WA := Lib.hid (waiting_any (h.below b1) s hs)
    rw [hlen] at WA
    have hchs := (h.hit hx).2.1.chs (n, vn) (by rw [hxq]; exact List.mem_cons_self ..)
    obtain ⟨vA, vN, vC, hvn⟩ := hchs.slice
    simp only at hchs hvn
    rw [hvn] at hchs hxq
    obtain ⟨w2, hw2⟩ : ∃ w2, w2 = w1.alloc (.cells #[.int .i64 n.ses, .int .i64 n.err, .int .i64 n.block, .string n.root, .slice vA vN vC] 63) := ⟨_, rfl⟩
    have b2 : Below w.heap.size w w2 := by rw [hw2]; exact b1.alloc (by omega) _
    have s2 : w2.heap.size = w.heap.size + 1 + 1 := by rw [hw2]; simp; omega
    have h1 := h.below b1
    have h2 := h.below b2
    obtain ⟨_, hr1, _, _⟩ := h1.hit hx
    obtain ⟨hmem, hr2, hrow2, _⟩ := h2.hit hx
    have c1 := h1.c1
    have LK := h1.look s hs
    rw [hx] at LK
    unfold Option.map ptrV at LK
    simp only at LK
    obtain ⟨g, cap, cur, hv, hBg, hg, hle, hcap, hsz, hcur⟩ : ∃ (g cap : Nat) (cur : List Value), x.v = .slice (some ⟨g, 0, none⟩) (qs.length + 1) cap ∧ B ≤ g ∧ w1.heap[g]? = some (.cells cur.toArray 63) ∧ qs.length + 1 ≤ cap ∧ cap ≤ maxLen ∧ cur.length = cap * 5 ∧ cur.take ((qs.length + 1) * 5) = cellN (n, .slice vA vN vC) ++ flatN qs := by
      rcases hr1.row.2 with ⟨_, e⟩ | ⟨g, cap, cur, e1, e2, e3, e4, e5, e6, e7⟩
      · rw [hxq] at e; simp at e
      · rw [hxq] at e1 e4 e7
        exact ⟨g, cap, cur.toList, by rw [e1]; simp, e2, by rw [Array.toArray_toList]; exact e3, by simpa using e4, e5, by simpa using e6, by rw [show (qs.length + 1) = ((n, Value.slice vA vN vC) :: qs).length from rfl, e7]; rfl⟩
    have d1 := hr1.c1
    have f1 := hr1.blk.frozen 1
    rw [hv] at d1
    have hcl : ∀ j, j < 5 → w1.cell? ⟨g, j, none⟩ = (cellN (n, .slice vA vN vC))[j]? := fun j hj => by
      rw [show w1.cell? ⟨g, j, none⟩ = cur.toArray[j]? from Blk.cell (show Blk w1 g 63 cur.toArray from hg) j, List.getElem?_toArray]
      have e : (cur.take ((qs.length + 1) * 5))[j]? = cur[j]? := List.getElem?_take_of_lt (by omega)
      rw [← e, hcur, List.getElem?_append_left (by simpa [cellN] using hj)]
    have g0 := hcl 0 (by decide)
    have g1 := hcl 1 (by decide)
    have g2 := hcl 2 (by decide)
    have g3 := hcl 3 (by decide)
    have g4 := hcl 4 (by decide)
    simp only [cellN, List.getElem?_cons_zero, List.getElem?_cons_succ] at g0 g1 g2 g3 g4
    have hone : ∀ y ∈ flatN x.q, y.oneCell' = true := fun y hy => by
      obtain ⟨p, hp, hy⟩ := List.mem_flatMap.1 hy
      obtain ⟨a, k, c, e⟩ := (hr2.chs p hp).slice
      simp only [cellN, List.mem_cons, List.not_mem_nil, or_false] at hy
      rcases hy with rfl | rfl | rfl | rfl | rfl
      · rfl
      · rfl
      · rfl
      · rfl
      · rw [e]; rfl
    have hrw := hr2.row
    rw [hv, hxq] at hrw
    rw [hxq] at hone
    have DEL := Lib.hid (del_Ntcs B _ (qs.length + 1) 1 _ w2 hrw (by decide) (by omega) (by omega) hone)
    have hdrop : (flatN ((n, Value.slice vA vN vC) :: qs)).drop (1 * 5) = flatN qs := by simp [flatN, cellN]
    rw [hdrop, Nat.add_sub_cancel] at DEL
    have H2 := Lib.hid h2
    have HX := Lib.hid hx
    have HV := Lib.hid hv
    have HR2 := Lib.hid hr2
    have CH := Lib.hid hchs
    have B2 := Lib.hid b2
    have S2 := Lib.hid s2
    have HXQ := Lib.hid hxq
    have OK : Hid (t.put s ⟨x.fol, q⟩).Ok := Lib.hid (h.ok.put s hs _ (by unfold Row.Ok; simp only; have := h.ok.row s; unfold Row.Ok at this; rw [hq] at this; simp at this ⊢; omega) (by have := h.ok.four; rw [hfol]; simp only; omega))
    have HQS := Lib.hid hqs
    rw [hfol]
    obtain ⟨xb, hxb⟩ : ∃ z, z = x.b := ⟨_, rfl⟩
    rw [← hxb] at LK d1 f1
    have HXB := Lib.hid hxb
    have d2 : w2.cell? ⟨xb, 1, none⟩ = some (.slice (some ⟨g, 0, none⟩) (qs.length + 1) cap) := by rw [hxb, ← hv]; exact hr2.c1
    obtain ⟨N1, hN1⟩ : ∃ k, k = qs.length + 1 := ⟨_, rfl⟩
    rw [← hN1] at d1 d2 DEL WA
    have i1 : ((N1 : Int) == 0) = false := by simp; omega
    have i2 : ¬ (N1 : Int) = 0 := by omega
    have i3 : (0 : Int) < (N1 : Int) := by omega
    have HN1 := Lib.hid hN1
    have OWN := Lib.hid (fun k hk => (h.ft.own k hk).2)
    have HW2 := Lib.hid hw2
    have HW1 := Lib.hid hw1
    have T2 : Hid (Blk w2 (w.heap.size + 1) 63 #[.int .i64 n.ses, .int .i64 n.err, .int .i64 n.block, .string n.root, .slice vA vN vC]) := Lib.hid (by
      have := Blk.new w1 63 #[.int .i64 n.ses, .int .i64 n.err, .int .i64 n.block, .string n.root, .slice vA vN vC]
      rw [← hw2, s1] at this
      exact this)
    have R2 : Hid (Blk w2 w.heap.size 63 #[.int .i64 0, .int .i64 0, .int .i64 0, .string ⟨#[]⟩, .slice none 0 0]) := Lib.hid (by
      have := (Blk.new w 63 #[.int .i64 0, .int .i64 0, .int .i64 0, .string ⟨#[]⟩, .slice none 0 0]).alloc (.cells #[.int .i64 n.ses, .int .i64 n.err, .int .i64 n.block, .string n.root, .slice vA vN vC] 63)
      rw [← hw1, ← hw2] at this
      exact this)
    have D3 : Hid (∀ (w3 : World), Far (fun j => (Value.slice (some ⟨g, 0, none⟩) N1 cap).ownBlock = some j) w2 w3 → w3.cell? ⟨xb, 1, none⟩ = some (.slice (some ⟨g, 0, none⟩) N1 cap) ∧ w3.frozen? ⟨xb, 1, none⟩ = false) := Lib.hid (fun w3 F3 => by
      have hb := HR2.out.blk.far F3 (fun e => by
        have := H2.out.ft.b_v (atK_some HX.out) (atK_some HX.out)
        rw [HV.out] at this
        rw [← HXB.out] at this e
        exact this e)
      rw [← HXB.out] at hb
      refine ⟨?_, hb.frozen 1⟩
      rw [hb.cell, HV.out, HN1.out]
      rfl)
    have TD : Hid (∀ (w3 : World) (A3 : Option Addr) (c3 : Nat), w3.ownsRow B 63 5 (.slice A3 qs.length c3) qs.length (flatN qs) → (Value.slice A3 qs.length c3).ownBlock = (Value.slice (some ⟨g, 0, none⟩) N1 cap).ownBlock → Far (fun j => (Value.slice (some ⟨g, 0, none⟩) N1 cap).ownBlock = some j) w2 w3 →
        Calls Try.prog 63 #[.pointer (some ⟨m, 0, none⟩), .int .i64 s] (w3.setCell ⟨xb, 1, none⟩ (.slice A3 qs.length c3)) fun e w' => e = .returned (.tuple #[]) ∧ (∀ W', Far (fun j => j = w.heap.size) w' W' → Fs B m mp rs w ((t.put s ⟨x.fol, q⟩).tidy s) W' ∧ Chs W' (.slice vA vN vC) n.chs) ∧
          Blk w' (w.heap.size + 1) 63 #[.int .i64 n.ses, .int .i64 n.err, .int .i64 n.block, .string n.root, .slice vA vN vC] ∧ Blk w' w.heap.size 63 #[.int .i64 0, .int .i64 0, .int .i64 0, .string ⟨#[]⟩, .slice none 0 0]) := Lib.hid (fun w3 A3 c3 o3 e3 F3 => by
      have hm := atK_some HX.out
      have hbv := H2.out.ft.b_v hm hm
      rw [HV.out] at hbv
      simp only at hbv
      have hbw : w3.heap[x.b]? = w2.heap[x.b]? := F3.block _ HR2.out.blk.lt (fun e => hbv (by rw [← e, HN1.out]))
      have hc3 : ∀ k c, Blk w2 k 142 c → (w3.setCell ⟨xb, 1, none⟩ (.slice A3 qs.length c3)).heap[k]? = w2.heap[k]? := fun k c hk => by
        rw [Below.heap_setCell _ _ _ _ (by
          intro e
          simp only at e
          rw [HXB.out] at e
          exact H2.out.ft.chg hk (.inr (.inr ⟨_, hm, .inl e⟩)))]
        refine F3.block k hk.lt (fun e => H2.out.ft.chg hk (.inr (.inr ⟨_, hm, .inr ?_⟩)))
        show x.v.ownBlock = some k
        rw [HV.out, ← e, HN1.out]
      have F4 : Far (fun k => k = x.b ∨ x.v.ownBlock = some k) w2 (w3.setCell ⟨xb, 1, none⟩ (.slice A3 qs.length c3)) := (F3.mono (fun k _ e => .inr (by rw [HV.out, ← e, HN1.out]))).setCell (p := ⟨xb, 1, none⟩) (fun _ => .inl HXB.out) _
      have hgx : ∀ b, (Value.slice A3 qs.length c3).ownBlock = some b → b ≠ xb := fun b hb e => hbv (by rw [← HXB.out, ← e, ← hb, e3, HN1.out])
      have hrk : RwOk B (w3.setCell ⟨xb, 1, none⟩ (.slice A3 qs.length c3)) ⟨x.fol, qs, x.b, .slice A3 qs.length c3⟩ := by
        refine ⟨?_, own_same o3 (fun b hb => Below.heap_setCell _ _ _ _ (by simpa using hgx b hb)), fun y hy => ?_, HR2.out.bB⟩
        · have : Blk w3 x.b 130 #[.bool x.fol, x.v] := hbw.trans HR2.out.blk
          have := this.set 1 (.slice A3 qs.length c3)
          rw [← HXB.out] at this ⊢
          exact this
        · exact (HR2.out.chs y (by rw [HXQ.out]; exact List.mem_cons_of_mem _ hy)).same hc3
      have hq2 : q = qs.map Prod.fst := HQS.out
      obtain ⟨u1, u2, u3⟩ := H2.out.turn (y := ⟨x.fol, qs, x.b, .slice A3 qs.length c3⟩) HX.out rfl F4 hrk (fun k hk => .inl (by rw [HV.out, ← hk, e3, HN1.out])) (by have := OK.out; rw [hq2] at this; exact this)
      have hu := H2.out.ok.up
      refine (tidy_any u1 s hs (by rw [u1.isSome]; exact put_some t hu s _)).mono ?_
      rintro e w5 ⟨he, hw⟩
      have FS2 : Fs B m mp rs w2 ((t.put s ⟨x.fol, q⟩).tidy s) w5 := by
        obtain ⟨rs2, g1, g2, g3⟩ := hw
        refine ⟨rs2, ?_, u2.trans g2 (fun i hi e => (u3 i e).resolve_right (by omega)), fun k e => ?_⟩
        · rw [hq2]; exact g1
        · rcases g3 k e with e | e
          · exact u3 k e
          · have := u2.size; exact .inr (by omega)
      have hown : ∀ k, OwnF m mp rs k → k < w.heap.size := fun k hk => OWN.out k hk
      have TB : Blk w5 (w.heap.size + 1) 63 #[.int .i64 n.ses, .int .i64 n.err, .int .i64 n.block, .string n.root, .slice vA vN vC] := by
        obtain ⟨rs2, g1, g2, g3⟩ := FS2
        exact T2.out.far g2 (fun e => by have := hown _ e; omega)
      have RB : Blk w5 w.heap.size 63 #[.int .i64 0, .int .i64 0, .int .i64 0, .string ⟨#[]⟩, .slice none 0 0] := by
        obtain ⟨rs2, g1, g2, g3⟩ := FS2
        exact R2.out.far g2 (fun e => by have := hown _ e; omega)
      refine ⟨he, fun W' F => ⟨FS2.wrote ⟨by have := S2.out; omega, fun e => by have := hown _ e; omega⟩ RB (by decide) F B2.out (Nat.le_refl _), ?_⟩, TB, RB⟩
      obtain ⟨rs2, g1, g2, g3⟩ := FS2
      refine ((CH.out.below B2.out).same (fun k c hk => g2.block k hk.lt (H2.out.ft.chg hk))).same (fun k c hk => F.block k hk.lt (fun e => by
        rw [e] at hk
        exact absurd (blk_type hk RB) (by decide))))
    clear h h1 h2 hq hx hrow hfol hxq hqs hlen hmost b1 b2 s2 hchs hvn hr1 hr2 hrow2 hmem hv hg hcl hcur hone hrw hdrop hxb hN1 hle hcap hsz
    rw [hw2] at DEL d2 D3 TD
    rw [hw1] at s1 LK c1 d1 f1 g0 g1 g2 g3 g4 WA DEL d2 D3 TD
    obtain ⟨T9, hT9⟩ : ∃ z, z = (t.put s ⟨x.fol, q⟩).tidy s := ⟨_, rfl⟩
    rw [← hT9] at TD ⊢
    clear hT9
    unfold cellN
    simp only
    clear hw1 hw2
    go_enter Try.func39, Try.ntmps39
    go_wp2_with (first
      | (go_at_call 37; refine WA.out.mono ?_; rintro e w' ⟨rfl, rfl⟩)
      | (go_at_call 62; refine DEL.out.mono ?_; rintro e w3 ⟨v', rfl, own3, ob3, F3⟩; obtain ⟨A3, c3, rfl⟩ := own_shape own3; obtain ⟨d3, f3⟩ := D3.out w3 F3; have TD3 := Lib.hid (TD.out w3 A3 c3 own3 ob3 F3); clear own3 ob3 F3 D3 TD)
      | (go_at_call 63; refine TD3.out.mono ?_; rintro e w5 ⟨rfl, hfs, ht, hr⟩; have HFS := Lib.hid hfs; have t0 := ht.cell 0; have t1 := ht.cell 1; have t2 := ht.cell 2; have t3 := ht.cell 3; have t4 := ht.cell 4; have r0 := hr.cell 0; have r1 := hr.cell 1; have r2 := hr.cell 2; have r3 := hr.cell 3; have r4 := hr.cell 4; have q0 := hr.frozen 0; have q1 := hr.frozen 1; have q2 := hr.frozen 2; have q3 := hr.frozen 3; have q4 := hr.frozen 4; have HRR := Lib.hid hr; simp only [List.getElem?_toArray, List.getElem?_cons_succ, List.getElem?_cons_zero] at t0 t1 t2 t3 t4 r0 r1 r2 r3 r4; clear hfs ht hr))
    have K9 := ((((HRR.out.set 0 (.int .i64 n.ses)).set 1 (.int .i64 n.err)).set 2 (.int .i64 n.block)).set 3 (.string n.root)).set 4 (.slice vA vN vC)
    have F9 : Far (fun j => j = w.heap.size) w5 (((((w5.setCell ⟨w.heap.size, 0, none⟩ (.int .i64 n.ses)).setCell ⟨w.heap.size, 1, none⟩ (.int .i64 n.err)).setCell ⟨w.heap.size, 2, none⟩ (.int .i64 n.block)).setCell ⟨w.heap.size, 3, none⟩ (.string n.root)).setCell ⟨w.heap.size, 4, none⟩ (.slice vA vN vC)) :=
      (((((Far.refl (fun j => j = w.heap.size) w5).setCell (p := ⟨w.heap.size, 0, none⟩) (fun _ => rfl) _).setCell (p := ⟨w.heap.size, 1, none⟩) (fun _ => rfl) _).setCell (p := ⟨w.heap.size, 2, none⟩) (fun _ => rfl) _).setCell (p := ⟨w.heap.size, 3, none⟩) (fun _ => rfl) _).setCell (p := ⟨w.heap.size, 4, none⟩) (fun _ => rfl) _
    obtain ⟨hfs, hch⟩ := HFS.out _ F9
    exact bodyPost_ret (results_pop (g := w.heap.size) rfl _ _ rfl rfl K9) rfl ⟨.slice vA vN vC, rfl, hch, hfs⟩
end
end Go.Proofs.Ytjladlniilacjaa
