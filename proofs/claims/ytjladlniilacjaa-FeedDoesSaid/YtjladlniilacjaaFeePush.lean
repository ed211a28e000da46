/-
  Package feed: Push.
-/
import Derived.Test.YtjladlniilacjaaFeePushK
import Derived.Test.YtjladlniilacjaaLeaNum
namespace Go.Proofs.Ytjladlniilacjaa
open Go.RowKit Go.Shelf Go.Proofs.Fee
attribute [local go_sem] Oper.semAt_some
set_option linter.unusedVariables false
set_option linter.unusedSimpArgs false
section
variable {B m mp : Nat} {t : Tbl} {rs : Keyz Rw} {w : World}
theorem cellN_one (nn : Ntc) (A : Option Addr) (k c : Nat) : ∀ y ∈ cellN (nn, .slice A k c), y.oneCell' = true := by
  intro y hy
  simp only [cellN, List.mem_cons, List.not_mem_nil, or_false] at hy
  rcases hy with rfl | rfl | rfl | rfl | rfl <;> rfl
theorem PJ.below {N : Nat} {rs' : Keyz Rw} {ks : Keyz Nat} {cn : Array Value} {W W' : World} {T : Tbl} {L : List Int} {vL : Value} (h : PJ B m mp N rs ks cn w T L rs' vL W) (k : Below W.heap.size W W') : PJ B m mp N rs ks cn w T L rs' vL W' :=
  h.other (grown_belowF k) (fun r e => by cases e)
theorem PJ.keeps {N : Nat} {rs' : Keyz Rw} {ks : Keyz Nat} {cn : Array Value} {W W' : World} {T : Tbl} {L : List Int} {vL : Value} (h : PJ B m mp N rs ks cn w T L rs' vL W) (k : Below W.heap.size W W') : KeepsOthers W W' ∧ Kf (N + 3) m mp (N + 2) W W' := by
  have hsz := h.size
  have hml := h.old m (.inl rfl)
  have hpl := h.old mp (.inr (.inl rfl))
  exact ⟨KeepsOthers.of_grownBy (grown_belowF k) (fun j o e => by cases e), Kf.grown (grown_belowF k) ⟨by omega, by simp⟩ ⟨by omega, by simp⟩ ⟨by omega, by simp⟩ ⟨by omega, by simp⟩ (fun j c hj e => by cases e)⟩
theorem lagged_any (b s : Int) (w : World) : Calls Try.prog 69 #[.agg #[.int .i64 0, .int .i64 11, .int .i64 b, .string ⟨#[]⟩, .slice none 0 0], .int .i64 s, .slice none 0 0] w fun e w' => ∃ v', e = .returned (.agg #[.int .i64 s, .int .i64 11, .int .i64 b, .string ⟨#[]⟩, v']) ∧ Chs w' v' [] ∧ Below w.heap.size w w' :=
  notice_any ⟨0, 11, b, e0, []⟩ s none 0 0 (.slice none 0 0) [] w (.inl ⟨rfl, rfl⟩) (Nat.zero_le _)
theorem fol_off {T : Tbl} {s : Int} {x : Rw} (h : T.Ok) (hx : T.row s = x.row) (hs : wfI s) : (T.put s ⟨false, x.row.q⟩).Ok := by
  refine h.put s hs _ ?_ (by have := h.four; show _ + bn false ≤ _; simp [bn]; omega)
  have := h.row s
  rw [hx] at this
  exact this
theorem PJ.set_fol {N : Nat} {rs' : Keyz Rw} {ks : Keyz Nat} {cn : Array Value} {W : World} {T : Tbl} {L : List Int} {vL : Value} {s : Int} {x : Rw} (h : PJ B m mp N rs ks cn w T L rs' vL W) (hx : atK rs' s = some x) (f : Bool) (ok : (T.put s ⟨f, x.row.q⟩).Ok) :
    PJ B m mp N rs ks cn w (T.put s ⟨f, x.row.q⟩) L (putK rs' s ⟨f, x.q, x.b, x.v⟩) vL (W.setCell ⟨x.b, 0, none⟩ (.bool f)) ∧ KeepsOthers W (W.setCell ⟨x.b, 0, none⟩ (.bool f)) ∧ Kf (N + 3) m mp (N + 2) W (W.setCell ⟨x.b, 0, none⟩ (.bool f)) := by
  have hm := atK_some hx
  have hr := h.fd.ft.each _ hm
  have key : ∀ j, j ≠ x.b → (W.setCell ⟨x.b, 0, none⟩ (.bool f)).heap[j]? = W.heap[j]? := fun j hne => Below.heap_setCell _ _ _ _ (by simpa using hne)
  exact h.turn (y := ⟨f, x.q, x.b, x.v⟩) hx rfl ((Far.refl _ W).setCell (p := ⟨x.b, 0, none⟩) (fun _ => .inl rfl) _) ⟨hr.blk.set 0 (.bool f), own_same hr.row (fun b hb => key b (fun e => h.fd.ft.b_v hm hm (by rw [hb, e]))), fun y hy => (hr.chs y hy).same (fun g c hg => key g (fun e => h.fd.ft.chg hg (.inr (.inr ⟨_, hm, .inl e⟩)))), hr.bB⟩ (fun k hk => .inl hk) ok
/-- The box still holds its slice, when what it leads to grew. -/
theorem box_kept {W w1 : World} {LB base n : Nat} {v : Value} {xs : List Value} {o : Obj} (h : Boxed W LB 60 v) {v0 : Value} (hr : W.ownsRow base 3 1 v0 n xs) (g : (W.alloc o).grownBy w1 v0.ownBlock) : w1.cell? ⟨LB, 0, none⟩ = some v ∧ w1.frozen? ⟨LB, 0, none⟩ = false := by
  have : Boxed w1 LB 60 v := (h.alloc o).kept g (fun e => by
    obtain ⟨c, hc⟩ := own_type hr e.symm
    exact absurd (blk_type (show Blk W LB 60 #[v] from h) hc) (by decide))
  exact ⟨this.cell, this.frozen⟩
theorem PJ.drewN {N : Nat} {rs' : Keyz Rw} {ks : Keyz Nat} {cn : Array Value} {W : World} {T : Tbl} {L : List Int} {vL : Value} (h : PJ B m mp N rs ks cn w T L rs' vL W) (q : Nat) : PJ B m mp N rs ks cn w T L rs' vL (W.drewN q) :=
  { fd := ⟨h.fd.ft.same (fun _ _ => rfl) (fun _ _ _ => rfl), h.fd.st, h.fd.ok⟩, bs := h.bs, box := h.box, row := h.row, f0 := h.f0, f1 := h.f1, far := h.far.drewN q, new := h.new, size := h.size, old := h.old, wN := h.wN }
theorem PJ.drew {N : Nat} {rs' : Keyz Rw} {ks : Keyz Nat} {cn : Array Value} {W : World} {T : Tbl} {L : List Int} {vL : Value} (h : PJ B m mp N rs ks cn w T L rs' vL W) : PJ B m mp N rs ks cn w T L rs' vL W.drew :=
  { fd := ⟨h.fd.ft.same (fun _ _ => rfl) (fun _ _ _ => rfl), h.fd.st, h.fd.ok⟩, bs := h.bs, box := h.box, row := h.row, f0 := h.f0, f1 := h.f1, far := h.far.drew, new := h.new, size := h.size, old := h.old, wN := h.wN }
set_option maxRecDepth 100000 in
set_option maxHeartbeats 4000000 in
theorem push_any (h : Fd B m mp t rs w) (n : Ntc) (A : Option Addr) (k c : Nat) (hch : Chs w (.slice A k c) n.chs) (hcl : n.chs.length ≤ 1000) (hn : t.rows.length ≤ 1000) :
    Calls Try.prog 52 #[.pointer (some ⟨m, 0, none⟩), .agg #[.int .i64 n.ses, .int .i64 n.err, .int .i64 n.block, .string n.root, .slice A k c]] w fun e w' => ∃ v, e = .returned v ∧ w'.ownsRow w.heap.size 3 1 v (t.push n).2.length ((t.push n).2.map (Value.int .i64)) ∧ Fs B m mp rs w (t.push n).1 w' := by
  have H := Lib.hid h
  have HCH := Lib.hid hch
  have HCL := Lib.hid hcl
  have hm0 := (h.ft.own m (.inl rfl)).2
  have hp0 := (h.ft.own mp (.inr (.inl rfl))).2
  have hlen : (mapK Rw.b rs).length ≤ 1000 := by rw [h.len]; exact hn
  have HKEYS := Lib.hid h.keys
  obtain ⟨i0, hi, hz0, hz1, hz2⟩ := info_partsF infoIntF
  clear h hch hcl
  refine (callsIn_wide (n := 7)).1 ?_
  refine callsIn_of_wp_marks Try.func52 rfl trivial ?_ rfl
  simp only [Try.ntmps52, List.size_toArray, List.length_cons, List.length_nil, Nat.reduceAdd, Nat.reduceSub, Array.replicate_succ, Array.replicate_zero, List.push_toArray, List.append_toArray, List.nil_append, List.cons_append]
  gi_wp2_with (refine ⟨trivial, ?_⟩; refine (callsIn_wide.2 (order_any m _)).mono ?_; rintro e w' ⟨rfl, rfl⟩)
  obtain ⟨N, hN⟩ : ∃ N, N = w.heap.size := ⟨_, rfl⟩
  obtain ⟨w1, hw1⟩ : ∃ W, W = w.alloc (.cells #[.pointer (some ⟨m, 0, none⟩)] 53) := ⟨_, rfl⟩
  obtain ⟨w2, hw2⟩ : ∃ W, W = w1.alloc (.cells #[.int .i64 n.ses, .int .i64 n.err, .int .i64 n.block, .string n.root, .slice A k c] 63) := ⟨_, rfl⟩
  obtain ⟨w3, hw3⟩ : ∃ W, W = w2.alloc (.cells #[.slice none 0 0] 60) := ⟨_, rfl⟩
  obtain ⟨W0, hw4⟩ : ∃ W, W = w3.alloc (.cells #[.pointer (some ⟨m, 0, none⟩)] 53) := ⟨_, rfl⟩
  have s1 : w1.heap.size = N + 1 := by rw [hw1, hN]; simp
  have s2 : w2.heap.size = N + 2 := by rw [hw2]; simp; omega
  have s3 : w3.heap.size = N + 3 := by rw [hw3]; simp; omega
  have s4 : W0.heap.size = N + 4 := by rw [hw4]; simp; omega
  have k0 : Blk W0 N 53 #[.pointer (some ⟨m, 0, none⟩)] := by
    rw [hw4, hw3, hw2, hw1, hN]; exact (((Blk.new w 53 _).alloc _).alloc _).alloc _
  have k1 : Blk W0 (N + 1) 63 #[.int .i64 n.ses, .int .i64 n.err, .int .i64 n.block, .string n.root, .slice A k c] := by
    rw [hw4, hw3, hw2, ← s1]; exact ((Blk.new w1 63 _).alloc _).alloc _
  have k2 : Boxed W0 (N + 2) 60 (.slice none 0 0) := by
    rw [hw4, hw3, ← s2]; exact (Boxed.new w2 60 _).alloc _
  have k3 : Blk W0 (N + 3) 53 #[.pointer (some ⟨m, 0, none⟩)] := by
    rw [hw4, ← s3]; exact Blk.new w3 53 _
  have hB0 : Below w.heap.size w W0 := by
    rw [hw4, hw3, hw2, hw1]
    exact ((((Below.refl _ w).alloc (Nat.le_refl _) _).alloc (by simp) _).alloc (by simp; omega) _).alloc (by simp; omega) _
  rw [← hw1, ← hw2, ← hw3, ← hw4]
  clear hw1 hw2 hw3 hw4 s1 s2 s3
  have hf0 := H.out.below hB0
  have hblk := hf0.ft.blk
  have hmap := hf0.ft.map
  have hlag : ∀ k, Lag (w.heap.size + 2) W0 k → k < W0.heap.size := fun k ⟨v, hv, hb⟩ => by
    rw [← hN, k2.cell] at hv
    cases hv
    cases hb
  have P0 : PJ B m mp N rs (mapK Rw.b rs) #[.int .i64 n.ses, .int .i64 n.err, .int .i64 n.block, .string n.root, .slice A k c] w t [] rs (.slice none 0 0) W0 :=
    { fd := hf0, bs := rfl, box := k2, row := ⟨rfl, .inl ⟨rfl, rfl⟩⟩, f0 := k0, f1 := k1, far := (far_of_belowF hB0).mono (fun _ _ e => e.elim), new := fun _ e => .inl e, size := by omega, old := fun k hk => by rw [hN]; exact (H.out.ft.own k hk).2, wN := hN.symm }
  simp only [← hN] at hlag ⊢
  have HN := Lib.hid hN
  have hm1 : m < N := by omega
  have hp1 : mp < N := by omega
  have KS := Lib.hid (rfl : mapK Rw.b rs = mapK Rw.b rs)
  clear hN hf0 hB0 k0 k1 hm0 hp0
  refine wpIn_rangeFunc_ownF rfl (by decide) (gf := 72) (lb := #[.pointer (some ⟨N + 1 + 1 + 1, 0, none⟩)]) rfl trivial (enters_of Try.func72 (by kernel_rfl) rfl)
    (order_stops (N + 3) m mp (N + 2) (mapK Rw.b rs) _ (by omega) W0 k3 hblk hmap (by omega) hlag) kf_t (kf_b (by omega) (by omega) (by omega) (by omega)) (Below.refl _ _) (fun _ => rfl)
    (PI B m mp N t rs (mapK Rw.b rs) n #[.int .i64 n.ses, .int .i64 n.err, .int .i64 n.block, .string n.root, .slice A k c] w)
    (fun c pre W => False)
    (by rw [s4]; exact PI.own _ _ _ _ _ _ _ _ _ _)
    (fun c => ownFrom_pure _ _)
    ⟨rs, .slice none 0 0, P0⟩
    (fun x => { tmps := #[.pointer (some ⟨m, 0, none⟩), .agg #[.int .i64 n.ses, .int .i64 n.err, .int .i64 n.block, .string n.root, .slice A k c], .pointer (some ⟨N, 0, none⟩), .pointer (some ⟨N + 1, 0, none⟩), .slice none 0 0, .pointer (some ⟨N + 1 + 1, 0, none⟩), .int .i64 x.1.1, .pointer (some ⟨x.1.2, 0, none⟩), .pointer (some ⟨m, 0, none⟩), .func (.func 72) #[] #[.pointer (some ⟨N + 1 + 1 + 1, 0, none⟩)], .int .i64 x.1.1, .pointer (some ⟨x.1.2, 0, none⟩), undef, undef, undef, undef, undef, undef, undef, undef, undef, undef, undef, undef, undef, undef, undef, undef, undef, undef, undef, undef, undef, undef, undef, undef, undef, undef, undef, undef, undef, undef, undef, undef, undef, undef, undef, undef, undef, undef, undef, undef, undef, undef, undef, undef, undef, undef, undef, undef, undef, undef, undef, undef, undef, undef, undef, undef, undef, undef, undef, undef, undef, undef, undef], defers := [] }) ?assign ?body ?done ?stop
  case assign =>
    intro l x W K hK
    simp only [encF]
    gi_wp2
    exact hK
  case body =>
    rintro l pre x W ⟨rs', vL, J⟩ hlt
    clear k2 k3 hblk hmap P0 hlag s4
    obtain ⟨z, hz, hzb⟩ := J.hit x
    have hzm := atK_some hz
    have hr := J.fd.ft.each _ hzm
    have c0 := hr.c0
    obtain ⟨VA, VC, hzv, _⟩ := hr.shape
    simp only at c0 hzv
    obtain ⟨VN, hVN⟩ : ∃ q, q = z.q.length := ⟨_, rfl⟩
    rw [← hVN] at hzv
    have hrow := (J.fd.hit hz).2.2.1
    rw [← hzb]
    have JJ := Lib.hid J
    have ZX := Lib.hid hz
    have ZV := Lib.hid hzv
    have ZN := Lib.hid hVN
    have ZR := Lib.hid hrow
    cases hf : z.fol with
    | false =>
      rw [hf] at c0
      have ZF := Lib.hid hf
      clear J hlt hz hzb hzm hr hzv hVN hrow hf
      gi_wp2
      refine ⟨KeepsOthers.refl _, Kf.refl _ _ _ _ _, PI.step JJ.out ?_ ?_⟩
      · unfold Tbl.pushAt
        have e : pushRow (Tbl.pushL n (t, []) (pre.map (·.1.1))).1.room n x.1.1 ((Tbl.pushL n (t, []) (pre.map (·.1.1))).1.row x.1.1) = z.row := by
          rw [ZR.out]; unfold pushRow Rw.row; rw [ZF.out]; rfl
        rw [e]
        exact (put_row JJ.out.fd.ok.up (by rw [JJ.out.fd.at_, ZX.out]; rfl)).symm
      · have e : lagR (Tbl.pushL n (t, []) (pre.map (·.1.1))).1.room x.1.1 ((Tbl.pushL n (t, []) (pre.map (·.1.1))).1.row x.1.1) = [] := by
          rw [ZR.out]; unfold lagR Rw.row; rw [ZF.out]; rfl
        rw [e, List.append_nil]
    | true =>
      rw [hf] at c0
      have ZF := Lib.hid hf
      have c1 := hr.c1
      simp only at c1
      rw [hzv] at c1
      have cf : W.cell? ⟨N, 0, none⟩ = some (.pointer (some ⟨m, 0, none⟩)) := by rw [J.f0.cell]; rfl
      have cr := J.fd.c0
      obtain ⟨T, hT⟩ : ∃ T, T = (Tbl.pushL n (t, []) (pre.map (·.1.1))).1 := ⟨_, rfl⟩
      obtain ⟨L, hL⟩ : ∃ T, T = (Tbl.pushL n (t, []) (pre.map (·.1.1))).2 := ⟨_, rfl⟩
      rw [← hT] at cr JJ ZR
      rw [← hL] at JJ
      have HT := Lib.hid hT
      have HL := Lib.hid hL
      obtain ⟨R, hR⟩ : ∃ R, R = T.room := ⟨_, rfl⟩
      rw [← hR] at cr
      have HR := Lib.hid hR
      have hmost := (JJ.out.fd.ok.row x.1.1)
      unfold Row.Ok at hmost
      rw [ZR.out, ← hR] at hmost
      simp only [Rw.row, List.length_map, ← hVN] at hmost
      by_cases hlt : VN < R
      · have q1 : decide ((VN : Int) < (R : Int)) = true := decide_eq_true (by omega)
        have i1 : (VN : Int) < (R : Int) := by omega
        have HLT := Lib.hid hlt
        have ZM : Hid (VN ≤ 100) := Lib.hid (by have := JJ.out.fd.ok.room; omega)
        have OKN : Hid (T.put x.1.1 ⟨z.fol, z.row.q ++ [({ n with ses := x.1.1 } : Ntc)]⟩).Ok := Lib.hid (JJ.out.fd.ok.put x.1.1 (JJ.out.fd.ft.map.wf (x.1.1, z.b) (List.mem_map.2 ⟨_, hzm, rfl⟩)) _ (by unfold Row.Ok; simp only [List.length_append, Rw.row, List.length_map, List.length_singleton, ← hVN]; omega) (by have h4 := JJ.out.fd.ok.four; have h5 : bn z.fol ≤ bn (T.fol x.1.1) := (by unfold Tbl.fol; rw [ZR.out]; exact Nat.le_refl _); simp only; omega))
        clear J hz hzb hzm hr hzv hVN hrow hf hT hL hR hlt hmost
        have Q1 := Lib.hid q1
        gi_wp2
        refine Segs.wpIn_region_last (fun WW => WW.cell? ⟨z.b, 1, none⟩ = some (.slice VA VN VC) ∧ WW.cell? ⟨N, 0, none⟩ = some (.pointer (some ⟨m, 0, none⟩)) ∧ WW.cell? ⟨m, 0, none⟩ = some (.int .i64 (R : Int))) [(0, false), (1, false), (2, false), (3, false), (4, false), (5, false), (6, false), (7, false), (8, false), (9, false), (10, true)] (by kernel_rfl) (by kernel_rfl) (by kernel_rfl) (by kernel_rfl) rfl (by kernel_rfl) ⟨c1, cf, cr⟩ ?_
        refine Segs.WQ.val 0 rfl (some 50) (.pointer (some ⟨z.b, 0, none⟩)) rfl (by kernel_rfl) (fun WW hG => by kernel_rfl) ?_
        simp only [Act.put, List.setIfInBounds_toArray, List.set_cons_zero, List.set_cons_succ]
        refine Segs.WQ.val 1 rfl (some 51) (.pointer (some ⟨z.b, 0, none⟩)) rfl (by kernel_rfl) (fun WW hG => by kernel_rfl) ?_
        simp only [Act.put, List.setIfInBounds_toArray, List.set_cons_zero, List.set_cons_succ]
        refine Segs.WQ.val 2 rfl (some 52) (.pointer (some ⟨z.b, 1, none⟩)) rfl (by kernel_rfl) (fun WW hG => by kernel_rfl) ?_
        simp only [Act.put, List.setIfInBounds_toArray, List.set_cons_zero, List.set_cons_succ]
        refine Segs.WQ.val 3 rfl (some 53) (.slice VA VN VC) rfl (by kernel_rfl) (fun WW hG => Segs.run_cell 72 (.tmp 52) rfl z.b 1 (by kernel_rfl) _ (isAggNs _) hG.1) ?_
        simp only [Act.put, List.setIfInBounds_toArray, List.set_cons_zero, List.set_cons_succ]
        refine Segs.WQ.val 4 rfl (some 54) (.int .i64 (VN : Int)) rfl (by kernel_rfl) (fun WW hG => by kernel_rfl) ?_
        simp only [Act.put, List.setIfInBounds_toArray, List.set_cons_zero, List.set_cons_succ]
        refine Segs.WQ.val 5 rfl (some 55) (.pointer (some ⟨m, 0, none⟩)) rfl (by kernel_rfl) (fun WW hG => Segs.run_cell 53 (.tmp 2) rfl N 0 (by kernel_rfl) _ (isAggFp _) hG.2.1) ?_
        simp only [Act.put, List.setIfInBounds_toArray, List.set_cons_zero, List.set_cons_succ]
        refine Segs.WQ.val 6 rfl (some 56) (.pointer (some ⟨m, 0, none⟩)) rfl (by kernel_rfl) (fun WW hG => by kernel_rfl) ?_
        simp only [Act.put, List.setIfInBounds_toArray, List.set_cons_zero, List.set_cons_succ]
        refine Segs.WQ.val 7 rfl (some 57) (.pointer (some ⟨m, 0, none⟩)) rfl (by kernel_rfl) (fun WW hG => by kernel_rfl) ?_
        simp only [Act.put, List.setIfInBounds_toArray, List.set_cons_zero, List.set_cons_succ]
        refine Segs.WQ.val 8 rfl (some 58) (.int .i64 (R : Int)) rfl (by kernel_rfl) (fun WW hG => Segs.run_cell 3 (.tmp 57) rfl m 0 (by kernel_rfl) _ (isAggI _) hG.2.2) ?_
        simp only [Act.put, List.setIfInBounds_toArray, List.set_cons_zero, List.set_cons_succ]
        refine Segs.WQ.val 9 rfl (some 59) (.bool true) rfl (by kernel_rfl) (fun WW hG => run_lti rfl _ _ (by kernel_rfl) (by kernel_rfl) true Q1.out) ?_
        simp only [Act.put, List.setIfInBounds_toArray, List.set_cons_zero, List.set_cons_succ]
        refine Segs.WQ.aval 10 rfl (some 49) (.bool true) W.drew rfl rfl (by kernel_rfl) (fun h => (by cases h)) ?_
        simp only [Act.put, List.setIfInBounds_toArray, List.set_cons_zero, List.set_cons_succ]
        refine Segs.WQ.fin ?_
        gi_wp2
        have J1 := Lib.hid (PJ.drew JJ.out)
        have GA : Hid (W.drew.cell? ⟨z.b, 1, none⟩ = some (.slice VA VN VC) ∧ Blk W.drew (N + 1) 63 #[.int .i64 n.ses, .int .i64 n.err, .int .i64 n.block, .string n.root, .slice A k c]) := Lib.hid ⟨c1, JJ.out.f1⟩
        have BA : Hid (Below W.heap.size W W.drew) := Lib.hid (Below.refl _ _).drew
        generalize W.drew = WA at J1 GA BA ⊢
        refine Segs.wpIn_region_last (fun WW => WW.cell? ⟨z.b, 1, none⟩ = some (.slice VA VN VC) ∧ Blk WW (N + 1) 63 #[.int .i64 n.ses, .int .i64 n.err, .int .i64 n.block, .string n.root, .slice A k c]) [(0, false), (1, false), (2, false), (3, false), (4, false), (5, false), (6, false), (7, false), (8, false), (9, true), (10, true), (11, true), (12, false), (13, false), (14, true)] (by kernel_rfl) (by kernel_rfl) (by kernel_rfl) (by kernel_rfl) rfl (by kernel_rfl) ⟨GA.out.1, GA.out.2⟩ ?_
        have J2 := Lib.hid (PJ.drew J1.out)
        have GD : Hid (WA.drew.cell? ⟨z.b, 1, none⟩ = some (.slice VA VN VC) ∧ Blk WA.drew (N + 1) 63 #[.int .i64 n.ses, .int .i64 n.err, .int .i64 n.block, .string n.root, .slice A k c]) := Lib.hid ⟨GA.out.1, GA.out.2⟩
        have BD : Hid (Below W.heap.size W WA.drew) := Lib.hid BA.out.drew
        generalize WA.drew = WD at J2 GD BD ⊢
        clear J1 GA BA
        refine Segs.WQ.val 0 rfl (some 60) (.pointer (some ⟨z.b, 0, none⟩)) rfl (by kernel_rfl) (fun WW hG => by kernel_rfl) ?_
        simp only [Act.put, List.setIfInBounds_toArray, List.set_cons_zero, List.set_cons_succ]
        refine Segs.WQ.val 1 rfl (some 61) (.pointer (some ⟨z.b, 0, none⟩)) rfl (by kernel_rfl) (fun WW hG => by kernel_rfl) ?_
        simp only [Act.put, List.setIfInBounds_toArray, List.set_cons_zero, List.set_cons_succ]
        refine Segs.WQ.val 2 rfl (some 62) (.pointer (some ⟨z.b, 0, none⟩)) rfl (by kernel_rfl) (fun WW hG => by kernel_rfl) ?_
        simp only [Act.put, List.setIfInBounds_toArray, List.set_cons_zero, List.set_cons_succ]
        refine Segs.WQ.val 3 rfl (some 63) (.pointer (some ⟨z.b, 1, none⟩)) rfl (by kernel_rfl) (fun WW hG => by kernel_rfl) ?_
        simp only [Act.put, List.setIfInBounds_toArray, List.set_cons_zero, List.set_cons_succ]
        refine Segs.WQ.val 4 rfl (some 64) (.slice VA VN VC) rfl (by kernel_rfl) (fun WW hG => Segs.run_cell 72 (.tmp 63) rfl z.b 1 (by kernel_rfl) _ (isAggNs _) hG.1) ?_
        simp only [Act.put, List.setIfInBounds_toArray, List.set_cons_zero, List.set_cons_succ]
        refine Segs.WQ.val 5 rfl (some 65) (.agg #[.int .i64 n.ses, .int .i64 n.err, .int .i64 n.block, .string n.root, .slice A k c]) rfl (by kernel_rfl) (fun WW hG => Segs.run_row 63 (.tmp 3) rfl (N + 1) (by kernel_rfl) 63 #[.int .i64 n.ses, .int .i64 n.err, .int .i64 n.block, .string n.root, .slice A k c] _ hG.2 Try.underlying63 rfl (by kernel_rfl)) ?_
        simp only [Act.put, List.setIfInBounds_toArray, List.set_cons_zero, List.set_cons_succ]
        refine Segs.WQ.val 6 rfl (some 66) (.int .i64 x.1.1) rfl (by kernel_rfl) (fun WW hG => by kernel_rfl) ?_
        simp only [Act.put, List.setIfInBounds_toArray, List.set_cons_zero, List.set_cons_succ]
        refine Segs.WQ.val 7 rfl (some 67) (.pointer (some ⟨N + 1, 4, none⟩)) rfl (by kernel_rfl) (fun WW hG => by kernel_rfl) ?_
        simp only [Act.put, List.setIfInBounds_toArray, List.set_cons_zero, List.set_cons_succ]
        refine Segs.WQ.val 8 rfl (some 68) (.slice A k c) rfl (by kernel_rfl) (fun WW hG => Segs.run_cell 61 (.tmp 67) rfl (N + 1) 4 (by kernel_rfl) _ (isAggCs _) (by rw [hG.2.cell]; rfl)) ?_
        simp only [Act.put, List.setIfInBounds_toArray, List.set_cons_zero, List.set_cons_succ]
        refine Segs.WQ.acall 9 rfl (some 69) 69 #[.agg #[.int .i64 n.ses, .int .i64 n.err, .int .i64 n.block, .string n.root, .slice A k c], .int .i64 x.1.1, .slice A k c] _ rfl rfl (fun W => by kernel_rfl) (notice_any n x.1.1 A k c (.slice A k c) n.chs WD (J2.out.chs H.out HCH.out) (Nat.le_trans HCL.out (by decide))) (fun e W2 hR => ?_)
        obtain ⟨v', rfl, hch2, hb2⟩ := hR
        refine ⟨_, rfl, fun _ => ⟨(hb2.cell (p := ⟨z.b, 1, none⟩) (by have := (J2.out.fd.ft.each _ (atK_some ZX.out)).blk.lt; exact this)).trans GD.out.1, GD.out.2.below hb2⟩, ?_⟩
        simp only [Act.put, List.setIfInBounds_toArray, List.set_cons_zero, List.set_cons_succ]
        obtain ⟨A6, N6, C6, rfl⟩ := hch2.slice
        have J3 := Lib.hid (J2.out.below hb2)
        have CH2 := Lib.hid hch2
        have G2 : Hid (W2.cell? ⟨z.b, 1, none⟩ = some (.slice VA VN VC) ∧ Blk W2 (N + 1) 63 #[.int .i64 n.ses, .int .i64 n.err, .int .i64 n.block, .string n.root, .slice A k c]) := Lib.hid ⟨(hb2.cell (p := ⟨z.b, 1, none⟩) (by have := (J2.out.fd.ft.each _ (atK_some ZX.out)).blk.lt; exact this)).trans GD.out.1, GD.out.2.below hb2⟩
        have B2 := Lib.hid (BD.out.trans (hb2.mono BD.out.size))
        clear hb2 hch2 J2 GD BD
        have bA : Below W2.heap.size W2 (W2.alloc (.cells #[.int .i64 x.1.1, .int .i64 n.err, .int .i64 n.block, .string n.root, .slice A6 N6 C6] 63)) := (Below.refl _ W2).alloc (Nat.le_refl _) _
        have GX : Hid ((W2.alloc (.cells #[.int .i64 x.1.1, .int .i64 n.err, .int .i64 n.block, .string n.root, .slice A6 N6 C6] 63)).cell? ⟨z.b, 1, none⟩ = some (.slice VA VN VC) ∧ Blk (W2.alloc (.cells #[.int .i64 x.1.1, .int .i64 n.err, .int .i64 n.block, .string n.root, .slice A6 N6 C6] 63)) (N + 1) 63 #[.int .i64 n.ses, .int .i64 n.err, .int .i64 n.block, .string n.root, .slice A k c]) := Lib.hid ⟨(bA.cell (p := ⟨z.b, 1, none⟩) (by have := (J3.out.fd.ft.each _ (atK_some ZX.out)).blk.lt; exact this)).trans G2.out.1, G2.out.2.below bA⟩
        have J4 := Lib.hid (J3.out.below bA)
        have CH4 := Lib.hid (CH2.out.below bA)
        have B4 := Lib.hid (B2.out.trans (bA.mono B2.out.size))
        have NB := Lib.hid (Blk.new W2 63 #[.int .i64 x.1.1, .int .i64 n.err, .int .i64 n.block, .string n.root, .slice A6 N6 C6])
        refine Segs.WQ.aval 10 rfl (some 70) (.slice (some ⟨W2.heap.size, 0, none⟩) 1 1) (W2.alloc (.cells #[.int .i64 x.1.1, .int .i64 n.err, .int .i64 n.block, .string n.root, .slice A6 N6 C6] 63)) rfl rfl (Segs.run_slice_of 72 63 1 _ rfl #[.int .i64 x.1.1, .int .i64 n.err, .int .i64 n.block, .string n.root, .slice A6 N6 C6] Try.underlying72 (by kernel_rfl)) (fun _ => ⟨GX.out.1, GX.out.2⟩) ?_
        simp only [Act.put, List.setIfInBounds_toArray, List.set_cons_zero, List.set_cons_succ]
        generalize W2.alloc (.cells #[.int .i64 x.1.1, .int .i64 n.err, .int .i64 n.block, .string n.root, .slice A6 N6 C6] 63) = W4 at GX J4 CH4 NB B4 ⊢
        generalize W2.heap.size = qn at NB ⊢
        clear G2 J3 CH2 bA B2
        obtain ⟨v2, W5, ha, own5, gr5, ob5⟩ := append_own Try.underlying72 infoNtcs rfl (by decide) (by decide) W4 B z.v z.q.length (flatN z.q) (J4.out.fd.ft.each _ (atK_some ZX.out)).row qn 0 1 1 (cellN (({ n with ses := x.1.1 } : Ntc), .slice A6 N6 C6)) rfl (fun j y hj => by rw [Nat.zero_add, NB.out.cell, List.getElem?_toArray]; exact hj) (cellN_one _ _ _ _) (by rw [← ZN.out]; have := ZM.out; omega) (by have := (J4.out.fd.ft.own _ (.inl rfl)); omega)
        obtain ⟨V6A, V6C, hv6⟩ := own_shape own5
        have F5 : Far (fun j => z.v.ownBlock = some j) W4 W5 := (Far.refl _ W4).grown gr5 (fun i _ e => e)
        have L5 := J4.out.later ZX.out F5
        subst hv6
        have HA : Hid ((Builtin.append_ #[72, 72] 72 #[.slice VA VN VC, .slice (some ⟨qn, 0, none⟩) 1 1]).run Try.prog W4 = .ok (.slice V6A (z.q.length + 1) V6C) W5) := Lib.hid (by rw [← ZV.out]; exact ha)
        have L5c : W5.cell? ⟨z.b, 1, none⟩ = some (.slice VA VN VC) := by rw [L5.1.cell, ← ZV.out]; rfl
        refine Segs.WQ.aval 11 rfl (some 71) (.slice V6A (z.q.length + 1) V6C) W5 rfl rfl (run_append_any 72 (.tmp 64) (.tmp 70) rfl rfl (by kernel_rfl) (by kernel_rfl) HA.out) (fun _ => ⟨L5c, L5.2.1⟩) ?_
        simp only [Act.put, List.setIfInBounds_toArray, List.set_cons_zero, List.set_cons_succ]
        refine Segs.WQ.val 12 rfl (some 72) (.pointer (some ⟨z.b, 0, none⟩)) rfl (by kernel_rfl) (fun WW hG => by kernel_rfl) ?_
        simp only [Act.put, List.setIfInBounds_toArray, List.set_cons_zero, List.set_cons_succ]
        refine Segs.WQ.val 13 rfl (some 73) (.pointer (some ⟨z.b, 1, none⟩)) rfl (by kernel_rfl) (fun WW hG => by kernel_rfl) ?_
        simp only [Act.put, List.setIfInBounds_toArray, List.set_cons_zero, List.set_cons_succ]
        refine Segs.WQ.askip 14 rfl (W5.setCell ⟨z.b, 1, none⟩ (.slice V6A (z.q.length + 1) V6C)) rfl rfl (Segs.run_storeCell rfl z.b 1 _ (.slice VA VN VC) (by kernel_rfl) (by kernel_rfl) rfl (by kernel_rfl) L5c (L5.1.frozen 1)) (fun h => (by cases h)) ?_
        obtain ⟨g1, g2, g3⟩ := J4.out.grew ZX.out true own5 F5 (ob5.imp id (fun h => ⟨_, Nat.le_refl _, h⟩)) ((CH4.out).same (fun g c' hg => L5.2.2 g c' hg)) OKN.out
        have G2 := Lib.hid ((JJ.out.keeps B4.out).1.trans g2)
        have G3 := Lib.hid ((JJ.out.keeps B4.out).2.trans g3)
        have G1 := Lib.hid g1
        clear g1 g2 g3 ob5 gr5 ha HA F5 CH4 NB B4 J4
        refine Segs.WQ.fin ?_
        gi_wp2
        refine ⟨G2.out, G3.out, PI.step G1.out ?_ ?_⟩
        · rw [← HT.out]
          unfold Tbl.pushAt
          have e : pushRow T.room n x.1.1 (T.row x.1.1) = ⟨true, z.row.q ++ [({ n with ses := x.1.1 } : Ntc)]⟩ := by
            rw [ZR.out]; unfold pushRow Rw.row; simp only [ZF.out, if_true, List.length_map, ← ZN.out, ← HR.out, if_pos HLT.out]
          rw [e, ZF.out]
        · have e : lagR T.room x.1.1 (T.row x.1.1) = [] := by
            rw [ZR.out]; unfold lagR Rw.row; simp only [ZF.out, if_true, List.length_map, ← ZN.out, ← HR.out, if_pos HLT.out]
          rw [← HT.out, e, List.append_nil, HL.out]
      · have q1 : decide ((VN : Int) < (R : Int)) = false := decide_eq_false (by omega)
        have i1 : ¬ (VN : Int) < (R : Int) := by omega
        have HLT := Lib.hid hlt
        have ZM : Hid (VN ≤ 100) := Lib.hid (by have := JJ.out.fd.ok.room; omega)
        have WF : Hid (wfI x.1.1) := Lib.hid (JJ.out.fd.ft.map.wf (x.1.1, z.b) (List.mem_map.2 ⟨_, hzm, rfl⟩))
        have LLEN : Hid (L.length ≤ 1000) := Lib.hid (by
          have h1 := pushL_len n (pre.map (·.1.1)) (t, [])
          rw [← hL] at h1
          simp only [List.length_map, List.length_nil, Nat.zero_add] at h1
          omega)
        have Q1 := Lib.hid q1
        by_cases heq : VN = R
        · have q2 : decide ((VN : Int) = (R : Int)) = true := decide_eq_true (by omega)
          have Q2 := Lib.hid q2
          have HEQ := Lib.hid heq
          have OKN : Hid (T.put x.1.1 ⟨z.fol, z.row.q ++ [lagN x.1.1 n.block]⟩).Ok := Lib.hid (JJ.out.fd.ok.put x.1.1 WF.out _ (by unfold Row.Ok; simp only [List.length_append, Rw.row, List.length_map, List.length_singleton, ← hVN]; omega) (by have h4 := JJ.out.fd.ok.four; have h5 : bn z.fol ≤ bn (T.fol x.1.1) := (by unfold Tbl.fol; rw [ZR.out]; exact Nat.le_refl _); simp only; omega))
          clear J hz hzb hzm hr hzv hVN hrow hf hT hL hR hlt hmost heq
          gi_wp2
          refine Segs.wpIn_region_last (fun WW => WW.cell? ⟨z.b, 1, none⟩ = some (.slice VA VN VC) ∧ WW.cell? ⟨N, 0, none⟩ = some (.pointer (some ⟨m, 0, none⟩)) ∧ WW.cell? ⟨m, 0, none⟩ = some (.int .i64 (R : Int))) [(0, false), (1, false), (2, false), (3, false), (4, false), (5, false), (6, false), (7, false), (8, false), (9, false), (10, true)] (by kernel_rfl) (by kernel_rfl) (by kernel_rfl) (by kernel_rfl) rfl (by kernel_rfl) ⟨c1, cf, cr⟩ ?_
          refine Segs.WQ.val 0 rfl (some 50) (.pointer (some ⟨z.b, 0, none⟩)) rfl (by kernel_rfl) (fun WW hG => by kernel_rfl) ?_
          simp only [Act.put, List.setIfInBounds_toArray, List.set_cons_zero, List.set_cons_succ]
          refine Segs.WQ.val 1 rfl (some 51) (.pointer (some ⟨z.b, 0, none⟩)) rfl (by kernel_rfl) (fun WW hG => by kernel_rfl) ?_
          simp only [Act.put, List.setIfInBounds_toArray, List.set_cons_zero, List.set_cons_succ]
          refine Segs.WQ.val 2 rfl (some 52) (.pointer (some ⟨z.b, 1, none⟩)) rfl (by kernel_rfl) (fun WW hG => by kernel_rfl) ?_
          simp only [Act.put, List.setIfInBounds_toArray, List.set_cons_zero, List.set_cons_succ]
          refine Segs.WQ.val 3 rfl (some 53) (.slice VA VN VC) rfl (by kernel_rfl) (fun WW hG => Segs.run_cell 72 (.tmp 52) rfl z.b 1 (by kernel_rfl) _ (isAggNs _) hG.1) ?_
          simp only [Act.put, List.setIfInBounds_toArray, List.set_cons_zero, List.set_cons_succ]
          refine Segs.WQ.val 4 rfl (some 54) (.int .i64 (VN : Int)) rfl (by kernel_rfl) (fun WW hG => by kernel_rfl) ?_
          simp only [Act.put, List.setIfInBounds_toArray, List.set_cons_zero, List.set_cons_succ]
          refine Segs.WQ.val 5 rfl (some 55) (.pointer (some ⟨m, 0, none⟩)) rfl (by kernel_rfl) (fun WW hG => Segs.run_cell 53 (.tmp 2) rfl N 0 (by kernel_rfl) _ (isAggFp _) hG.2.1) ?_
          simp only [Act.put, List.setIfInBounds_toArray, List.set_cons_zero, List.set_cons_succ]
          refine Segs.WQ.val 6 rfl (some 56) (.pointer (some ⟨m, 0, none⟩)) rfl (by kernel_rfl) (fun WW hG => by kernel_rfl) ?_
          simp only [Act.put, List.setIfInBounds_toArray, List.set_cons_zero, List.set_cons_succ]
          refine Segs.WQ.val 7 rfl (some 57) (.pointer (some ⟨m, 0, none⟩)) rfl (by kernel_rfl) (fun WW hG => by kernel_rfl) ?_
          simp only [Act.put, List.setIfInBounds_toArray, List.set_cons_zero, List.set_cons_succ]
          refine Segs.WQ.val 8 rfl (some 58) (.int .i64 (R : Int)) rfl (by kernel_rfl) (fun WW hG => Segs.run_cell 3 (.tmp 57) rfl m 0 (by kernel_rfl) _ (isAggI _) hG.2.2) ?_
          simp only [Act.put, List.setIfInBounds_toArray, List.set_cons_zero, List.set_cons_succ]
          refine Segs.WQ.val 9 rfl (some 59) (.bool false) rfl (by kernel_rfl) (fun WW hG => run_lti rfl _ _ (by kernel_rfl) (by kernel_rfl) false Q1.out) ?_
          simp only [Act.put, List.setIfInBounds_toArray, List.set_cons_zero, List.set_cons_succ]
          refine Segs.WQ.aval 10 rfl (some 49) (.bool false) W.drew rfl rfl (by kernel_rfl) (fun h => (by cases h)) ?_
          simp only [Act.put, List.setIfInBounds_toArray, List.set_cons_zero, List.set_cons_succ]
          refine Segs.WQ.fin ?_
          gi_wp2
          refine Segs.wpIn_region_last (fun WW => WW.cell? ⟨z.b, 1, none⟩ = some (.slice VA VN VC) ∧ WW.cell? ⟨N, 0, none⟩ = some (.pointer (some ⟨m, 0, none⟩)) ∧ WW.cell? ⟨m, 0, none⟩ = some (.int .i64 (R : Int))) [(0, false), (1, false), (2, false), (3, false), (4, false), (5, false), (6, false), (7, false), (8, false), (9, true)] (by kernel_rfl) (by kernel_rfl) (by kernel_rfl) (by kernel_rfl) rfl (by kernel_rfl) ⟨c1, cf, cr⟩ ?_
          refine Segs.WQ.val 0 rfl (some 12) (.pointer (some ⟨z.b, 0, none⟩)) rfl (by kernel_rfl) (fun WW hG => by kernel_rfl) ?_
          simp only [Act.put, List.setIfInBounds_toArray, List.set_cons_zero, List.set_cons_succ]
          refine Segs.WQ.val 1 rfl (some 13) (.pointer (some ⟨z.b, 0, none⟩)) rfl (by kernel_rfl) (fun WW hG => by kernel_rfl) ?_
          simp only [Act.put, List.setIfInBounds_toArray, List.set_cons_zero, List.set_cons_succ]
          refine Segs.WQ.val 2 rfl (some 14) (.pointer (some ⟨z.b, 1, none⟩)) rfl (by kernel_rfl) (fun WW hG => by kernel_rfl) ?_
          simp only [Act.put, List.setIfInBounds_toArray, List.set_cons_zero, List.set_cons_succ]
          refine Segs.WQ.val 3 rfl (some 15) (.slice VA VN VC) rfl (by kernel_rfl) (fun WW hG => Segs.run_cell 72 (.tmp 14) rfl z.b 1 (by kernel_rfl) _ (isAggNs _) hG.1) ?_
          simp only [Act.put, List.setIfInBounds_toArray, List.set_cons_zero, List.set_cons_succ]
          refine Segs.WQ.val 4 rfl (some 16) (.int .i64 (VN : Int)) rfl (by kernel_rfl) (fun WW hG => by kernel_rfl) ?_
          simp only [Act.put, List.setIfInBounds_toArray, List.set_cons_zero, List.set_cons_succ]
          refine Segs.WQ.val 5 rfl (some 17) (.pointer (some ⟨m, 0, none⟩)) rfl (by kernel_rfl) (fun WW hG => Segs.run_cell 53 (.tmp 2) rfl N 0 (by kernel_rfl) _ (isAggFp _) hG.2.1) ?_
          simp only [Act.put, List.setIfInBounds_toArray, List.set_cons_zero, List.set_cons_succ]
          refine Segs.WQ.val 6 rfl (some 18) (.pointer (some ⟨m, 0, none⟩)) rfl (by kernel_rfl) (fun WW hG => by kernel_rfl) ?_
          simp only [Act.put, List.setIfInBounds_toArray, List.set_cons_zero, List.set_cons_succ]
          refine Segs.WQ.val 7 rfl (some 19) (.pointer (some ⟨m, 0, none⟩)) rfl (by kernel_rfl) (fun WW hG => by kernel_rfl) ?_
          simp only [Act.put, List.setIfInBounds_toArray, List.set_cons_zero, List.set_cons_succ]
          refine Segs.WQ.val 8 rfl (some 20) (.int .i64 (R : Int)) rfl (by kernel_rfl) (fun WW hG => Segs.run_cell 3 (.tmp 19) rfl m 0 (by kernel_rfl) _ (isAggI _) hG.2.2) ?_
          simp only [Act.put, List.setIfInBounds_toArray, List.set_cons_zero, List.set_cons_succ]
          refine Segs.WQ.aval 9 rfl (some 21) (.bool true) W.drew.drew rfl rfl (run_eqi rfl _ _ (by kernel_rfl) (by kernel_rfl) true Q2.out) (fun h => (by cases h)) ?_
          simp only [Act.put, List.setIfInBounds_toArray, List.set_cons_zero, List.set_cons_succ]
          refine Segs.WQ.fin ?_
          gi_wp2
          have J1 := Lib.hid (PJ.drew (PJ.drew JJ.out))
          have GA : Hid (W.drew.drew.cell? ⟨z.b, 1, none⟩ = some (.slice VA VN VC) ∧ Blk W.drew.drew (N + 1) 63 #[.int .i64 n.ses, .int .i64 n.err, .int .i64 n.block, .string n.root, .slice A k c]) := Lib.hid ⟨c1, JJ.out.f1⟩
          have BA : Hid (Below W.heap.size W W.drew.drew) := Lib.hid (Below.refl _ _).drew.drew
          generalize W.drew.drew = WA at J1 GA BA ⊢
          refine Segs.wpIn_region_last (fun WW => WW.cell? ⟨z.b, 1, none⟩ = some (.slice VA VN VC) ∧ Blk WW (N + 1) 63 #[.int .i64 n.ses, .int .i64 n.err, .int .i64 n.block, .string n.root, .slice A k c]) [(0, false), (1, false), (2, false), (3, false), (4, false), (5, false), (6, false), (7, false), (8, false), (9, true), (10, true), (11, true), (12, false), (13, false), (14, true)] (by kernel_rfl) (by kernel_rfl) (by kernel_rfl) (by kernel_rfl) rfl (by kernel_rfl) ⟨GA.out.1, GA.out.2⟩ ?_
          have J2 := Lib.hid (PJ.drew J1.out)
          have GD : Hid (WA.drew.cell? ⟨z.b, 1, none⟩ = some (.slice VA VN VC) ∧ Blk WA.drew (N + 1) 63 #[.int .i64 n.ses, .int .i64 n.err, .int .i64 n.block, .string n.root, .slice A k c]) := Lib.hid ⟨GA.out.1, GA.out.2⟩
          have BD : Hid (Below W.heap.size W WA.drew) := Lib.hid BA.out.drew
          generalize WA.drew = WD at J2 GD BD ⊢
          clear J1 GA BA
          refine Segs.WQ.val 0 rfl (some 22) (.pointer (some ⟨z.b, 0, none⟩)) rfl (by kernel_rfl) (fun WW hG => by kernel_rfl) ?_
          simp only [Act.put, List.setIfInBounds_toArray, List.set_cons_zero, List.set_cons_succ]
          refine Segs.WQ.val 1 rfl (some 23) (.pointer (some ⟨z.b, 0, none⟩)) rfl (by kernel_rfl) (fun WW hG => by kernel_rfl) ?_
          simp only [Act.put, List.setIfInBounds_toArray, List.set_cons_zero, List.set_cons_succ]
          refine Segs.WQ.val 2 rfl (some 24) (.pointer (some ⟨z.b, 0, none⟩)) rfl (by kernel_rfl) (fun WW hG => by kernel_rfl) ?_
          simp only [Act.put, List.setIfInBounds_toArray, List.set_cons_zero, List.set_cons_succ]
          refine Segs.WQ.val 3 rfl (some 25) (.pointer (some ⟨z.b, 1, none⟩)) rfl (by kernel_rfl) (fun WW hG => by kernel_rfl) ?_
          simp only [Act.put, List.setIfInBounds_toArray, List.set_cons_zero, List.set_cons_succ]
          refine Segs.WQ.val 4 rfl (some 26) (.slice VA VN VC) rfl (by kernel_rfl) (fun WW hG => Segs.run_cell 72 (.tmp 25) rfl z.b 1 (by kernel_rfl) _ (isAggNs _) hG.1) ?_
          simp only [Act.put, List.setIfInBounds_toArray, List.set_cons_zero, List.set_cons_succ]
          refine Segs.WQ.val 5 rfl (some 27) (.pointer (some ⟨N + 1, 2, none⟩)) rfl (by kernel_rfl) (fun WW hG => by kernel_rfl) ?_
          simp only [Act.put, List.setIfInBounds_toArray, List.set_cons_zero, List.set_cons_succ]
          refine Segs.WQ.val 6 rfl (some 28) (.int .i64 n.block) rfl (by kernel_rfl) (fun WW hG => Segs.run_cell 3 (.tmp 27) rfl (N + 1) 2 (by kernel_rfl) _ (isAggI _) (by rw [hG.2.cell]; rfl)) ?_
          simp only [Act.put, List.setIfInBounds_toArray, List.set_cons_zero, List.set_cons_succ]
          refine Segs.WQ.val 7 rfl (some 29) (.agg #[.int .i64 0, .int .i64 11, .int .i64 n.block, .string ⟨#[]⟩, .slice none 0 0]) rfl (by kernel_rfl) (fun WW hG => Segs.run_built0 63 _ rfl _ (by kernel_rfl)) ?_
          simp only [Act.put, List.setIfInBounds_toArray, List.set_cons_zero, List.set_cons_succ]
          refine Segs.WQ.val 8 rfl (some 30) (.int .i64 x.1.1) rfl (by kernel_rfl) (fun WW hG => by kernel_rfl) ?_
          simp only [Act.put, List.setIfInBounds_toArray, List.set_cons_zero, List.set_cons_succ]
          refine Segs.WQ.acall 9 rfl (some 31) 69 #[.agg #[.int .i64 0, .int .i64 11, .int .i64 n.block, .string ⟨#[]⟩, .slice none 0 0], .int .i64 x.1.1, .slice none 0 0] _ rfl rfl (fun W => by kernel_rfl) (lagged_any n.block x.1.1 WD) (fun e W2 hR => ?_)
          obtain ⟨v', rfl, hch2, hb2⟩ := hR
          refine ⟨_, rfl, fun _ => ⟨(hb2.cell (p := ⟨z.b, 1, none⟩) (by have := (J2.out.fd.ft.each _ (atK_some ZX.out)).blk.lt; exact this)).trans GD.out.1, GD.out.2.below hb2⟩, ?_⟩
          simp only [Act.put, List.setIfInBounds_toArray, List.set_cons_zero, List.set_cons_succ]
          obtain ⟨A6, N6, C6, rfl⟩ := hch2.slice
          have J3 := Lib.hid (J2.out.below hb2)
          have CH2 := Lib.hid hch2
          have G2 : Hid (W2.cell? ⟨z.b, 1, none⟩ = some (.slice VA VN VC) ∧ Blk W2 (N + 1) 63 #[.int .i64 n.ses, .int .i64 n.err, .int .i64 n.block, .string n.root, .slice A k c]) := Lib.hid ⟨(hb2.cell (p := ⟨z.b, 1, none⟩) (by have := (J2.out.fd.ft.each _ (atK_some ZX.out)).blk.lt; exact this)).trans GD.out.1, GD.out.2.below hb2⟩
          have B2 := Lib.hid (BD.out.trans (hb2.mono BD.out.size))
          clear hb2 hch2 J2 GD BD
          have bA : Below W2.heap.size W2 (W2.alloc (.cells #[.int .i64 x.1.1, .int .i64 11, .int .i64 n.block, .string ⟨#[]⟩, .slice A6 N6 C6] 63)) := (Below.refl _ W2).alloc (Nat.le_refl _) _
          have GX : Hid ((W2.alloc (.cells #[.int .i64 x.1.1, .int .i64 11, .int .i64 n.block, .string ⟨#[]⟩, .slice A6 N6 C6] 63)).cell? ⟨z.b, 1, none⟩ = some (.slice VA VN VC) ∧ Blk (W2.alloc (.cells #[.int .i64 x.1.1, .int .i64 11, .int .i64 n.block, .string ⟨#[]⟩, .slice A6 N6 C6] 63)) (N + 1) 63 #[.int .i64 n.ses, .int .i64 n.err, .int .i64 n.block, .string n.root, .slice A k c]) := Lib.hid ⟨(bA.cell (p := ⟨z.b, 1, none⟩) (by have := (J3.out.fd.ft.each _ (atK_some ZX.out)).blk.lt; exact this)).trans G2.out.1, G2.out.2.below bA⟩
          have J4 := Lib.hid (J3.out.below bA)
          have CH4 := Lib.hid (CH2.out.below bA)
          have B4 := Lib.hid (B2.out.trans (bA.mono B2.out.size))
          have NB := Lib.hid (Blk.new W2 63 #[.int .i64 x.1.1, .int .i64 11, .int .i64 n.block, .string ⟨#[]⟩, .slice A6 N6 C6])
          refine Segs.WQ.aval 10 rfl (some 32) (.slice (some ⟨W2.heap.size, 0, none⟩) 1 1) (W2.alloc (.cells #[.int .i64 x.1.1, .int .i64 11, .int .i64 n.block, .string ⟨#[]⟩, .slice A6 N6 C6] 63)) rfl rfl (Segs.run_slice_of 72 63 1 _ rfl #[.int .i64 x.1.1, .int .i64 11, .int .i64 n.block, .string ⟨#[]⟩, .slice A6 N6 C6] Try.underlying72 (by kernel_rfl)) (fun _ => ⟨GX.out.1, GX.out.2⟩) ?_
          simp only [Act.put, List.setIfInBounds_toArray, List.set_cons_zero, List.set_cons_succ]
          generalize W2.alloc (.cells #[.int .i64 x.1.1, .int .i64 11, .int .i64 n.block, .string ⟨#[]⟩, .slice A6 N6 C6] 63) = W4 at GX J4 CH4 NB B4 ⊢
          generalize W2.heap.size = qn at NB ⊢
          clear G2 J3 CH2 bA B2
          obtain ⟨v2, W5, ha, own5, gr5, ob5⟩ := append_own Try.underlying72 infoNtcs rfl (by decide) (by decide) W4 B z.v z.q.length (flatN z.q) (J4.out.fd.ft.each _ (atK_some ZX.out)).row qn 0 1 1 (cellN (lagN x.1.1 n.block, .slice A6 N6 C6)) rfl (fun j y hj => by rw [Nat.zero_add, NB.out.cell, List.getElem?_toArray]; exact hj) (cellN_one _ _ _ _) (by rw [← ZN.out]; have := ZM.out; omega) (by have := (J4.out.fd.ft.own _ (.inl rfl)); omega)
          obtain ⟨V6A, V6C, hv6⟩ := own_shape own5
          have F5 : Far (fun j => z.v.ownBlock = some j) W4 W5 := (Far.refl _ W4).grown gr5 (fun i _ e => e)
          have L5 := J4.out.later ZX.out F5
          subst hv6
          have HA : Hid ((Builtin.append_ #[72, 72] 72 #[.slice VA VN VC, .slice (some ⟨qn, 0, none⟩) 1 1]).run Try.prog W4 = .ok (.slice V6A (z.q.length + 1) V6C) W5) := Lib.hid (by rw [← ZV.out]; exact ha)
          have L5c : W5.cell? ⟨z.b, 1, none⟩ = some (.slice VA VN VC) := by rw [L5.1.cell, ← ZV.out]; rfl
          refine Segs.WQ.aval 11 rfl (some 33) (.slice V6A (z.q.length + 1) V6C) W5 rfl rfl (run_append_any 72 (.tmp 26) (.tmp 32) rfl rfl (by kernel_rfl) (by kernel_rfl) HA.out) (fun _ => ⟨L5c, L5.2.1⟩) ?_
          simp only [Act.put, List.setIfInBounds_toArray, List.set_cons_zero, List.set_cons_succ]
          refine Segs.WQ.val 12 rfl (some 34) (.pointer (some ⟨z.b, 0, none⟩)) rfl (by kernel_rfl) (fun WW hG => by kernel_rfl) ?_
          simp only [Act.put, List.setIfInBounds_toArray, List.set_cons_zero, List.set_cons_succ]
          refine Segs.WQ.val 13 rfl (some 35) (.pointer (some ⟨z.b, 1, none⟩)) rfl (by kernel_rfl) (fun WW hG => by kernel_rfl) ?_
          simp only [Act.put, List.setIfInBounds_toArray, List.set_cons_zero, List.set_cons_succ]
          refine Segs.WQ.askip 14 rfl (W5.setCell ⟨z.b, 1, none⟩ (.slice V6A (z.q.length + 1) V6C)) rfl rfl (Segs.run_storeCell rfl z.b 1 _ (.slice VA VN VC) (by kernel_rfl) (by kernel_rfl) rfl (by kernel_rfl) L5c (L5.1.frozen 1)) (fun h => (by cases h)) ?_
          obtain ⟨g1, g2, g3⟩ := J4.out.grew ZX.out true own5 F5 (ob5.imp id (fun h => ⟨_, Nat.le_refl _, h⟩)) ((CH4.out).same (fun g c' hg => L5.2.2 g c' hg)) OKN.out
          have G2 := Lib.hid ((JJ.out.keeps B4.out).1.trans g2)
          have G3 := Lib.hid ((JJ.out.keeps B4.out).2.trans g3)
          have G1 := Lib.hid g1
          clear g1 g2 g3 ob5 gr5 ha HA F5 CH4 NB B4 J4
          refine Segs.WQ.fin ?_
          have G6h : Hid (atK (putK rs' x.1.1 ⟨true, z.q ++ [(lagN x.1.1 n.block, .slice A6 N6 C6)], z.b, .slice V6A (z.q.length + 1) V6C⟩) x.1.1 = some ⟨true, z.q ++ [(lagN x.1.1 n.block, .slice A6 N6 C6)], z.b, .slice V6A (z.q.length + 1) V6C⟩) := Lib.hid (by
            rw [atK_put JJ.out.fd.ft.up, if_pos rfl])
          have GK := G2
          have GF := G3
          rw [ZF.out] at G1
          have G6 := G1
          generalize W5.setCell ⟨z.b, 1, none⟩ (.slice V6A (z.q.length + 1) V6C) = W6 at G6 GK GF ⊢
          clear G1 G2 G3 L5 L5c own5 c0 c1 cf cr
          have z6 := G6h.out
          have hr6 := G6.out.fd.ft.each _ (atK_some z6)
          have e0 := hr6.c0
          have ef := hr6.blk.frozen 0
          try simp only at e0 ef
          have OK7 := Lib.hid (fol_off G6.out.fd.ok (G6.out.fd.hit z6).2.2.1 (G6.out.fd.ft.map.wf (x.1.1, z.b) (List.mem_map.2 ⟨_, atK_some z6, rfl⟩)))
          obtain ⟨g7, k7, f7⟩ := G6.out.set_fol z6 false OK7.out
          have G7 := Lib.hid g7
          have K7 := Lib.hid (GK.out.trans k7)
          have F7 := Lib.hid (GF.out.trans f7)
          clear z6 hr6 g7 k7 f7 OK7
          gi_upto_region 8 with (fail)
          try simp only at G7 K7 F7
          generalize W6.setCell ⟨z.b, 0, none⟩ (.bool false) = W7 at G7 K7 F7 ⊢
          have hL7 : L.length ≤ 1000 := LLEN.out
          have b7 := G7.out.box.cell
          have bf7 := G7.out.box.frozen
          obtain ⟨LA, LC, hvL⟩ := own_shape G7.out.row
          have HVL := Lib.hid hvL
          rw [hvL] at b7
          have hpl : L.length + 1 ≤ maxLen := by simp [maxLen]; omega
          have hpb : (L.length + 1) * 8 ≤ 140737488355328 := by omega
          have hW2 : N + 4 ≤ (W7.alloc (.cells #[.int .i64 x.1.1] 3)).heap.size := by have := G7.out.size; simp; omega
          have hrow7 : W7.ownsRow (N + 4) 3 1 (.slice LA L.length LC) L.length (L.map (Value.int .i64)) := by rw [← hvL]; exact G7.out.row
          clear hvL e0 ef
          gi_wp2_with (gi_at_builtin; refine wpListIn_append_own_at _ rfl _ _ 60 rfl (N + 4) 3 i0 (.int .i64 0) 1 8 Try.underlying60 hi hz0 hz1 hz2 rfl (by decide) _ _ _ rfl (hrow7.alloc _) ⟨W7.heap.size, 0, none⟩ 1 1 [.int .i64 x.1.1] rfl rfl (cell_one_new _ _ _) (by simp [Value.oneCell']) hpl hpb hW2 ?_; intro v8 w8 hown8 hgrow8 _ hnil8; obtain ⟨g8, cap8, rfl⟩ := ownsRow_succ hown8; obtain ⟨hc8, hf8⟩ := box_kept G7.out.box hrow7 hgrow8)
          try simp only [Act.eval] at hgrow8 hnil8
          obtain ⟨g9, k9, f9⟩ := G7.out.lag hown8 (by rw [HVL.out]; exact hgrow8) (by rw [HVL.out]; exact hnil8)
          refine ⟨K7.out.trans k9, F7.out.trans f9, PI.step g9 ?_ ?_⟩
          · rw [← HT.out]
            unfold Tbl.pushAt
            rw [put_put_t JJ.out.fd.ok.up]
            have e : pushRow T.room n x.1.1 (T.row x.1.1) = ⟨false, z.row.q ++ [lagN x.1.1 n.block]⟩ := by
              rw [ZR.out]; unfold pushRow Rw.row; simp only [ZF.out, if_true, List.length_map, ← ZN.out, ← HR.out, if_neg HLT.out, if_pos HEQ.out]
            rw [e]
            simp [Rw.row]
          · have e : lagR T.room x.1.1 (T.row x.1.1) = [x.1.1] := by
              rw [ZR.out]; unfold lagR Rw.row; simp only [ZF.out, if_true, List.length_map, ← ZN.out, ← HR.out, if_neg HLT.out]
            rw [← HT.out, e, HL.out]
        · have q2 : decide ((VN : Int) = (R : Int)) = false := decide_eq_false (by omega)
          have Q2 := Lib.hid q2
          have HEQ := Lib.hid heq
          clear J hz hzb hzm hr hzv hVN hrow hf hT hL hR hlt hmost heq
          gi_wp2
          refine Segs.wpIn_region_last (fun WW => WW.cell? ⟨z.b, 1, none⟩ = some (.slice VA VN VC) ∧ WW.cell? ⟨N, 0, none⟩ = some (.pointer (some ⟨m, 0, none⟩)) ∧ WW.cell? ⟨m, 0, none⟩ = some (.int .i64 (R : Int))) [(0, false), (1, false), (2, false), (3, false), (4, false), (5, false), (6, false), (7, false), (8, false), (9, false), (10, true)] (by kernel_rfl) (by kernel_rfl) (by kernel_rfl) (by kernel_rfl) rfl (by kernel_rfl) ⟨c1, cf, cr⟩ ?_
          refine Segs.WQ.val 0 rfl (some 50) (.pointer (some ⟨z.b, 0, none⟩)) rfl (by kernel_rfl) (fun WW hG => by kernel_rfl) ?_
          simp only [Act.put, List.setIfInBounds_toArray, List.set_cons_zero, List.set_cons_succ]
          refine Segs.WQ.val 1 rfl (some 51) (.pointer (some ⟨z.b, 0, none⟩)) rfl (by kernel_rfl) (fun WW hG => by kernel_rfl) ?_
          simp only [Act.put, List.setIfInBounds_toArray, List.set_cons_zero, List.set_cons_succ]
          refine Segs.WQ.val 2 rfl (some 52) (.pointer (some ⟨z.b, 1, none⟩)) rfl (by kernel_rfl) (fun WW hG => by kernel_rfl) ?_
          simp only [Act.put, List.setIfInBounds_toArray, List.set_cons_zero, List.set_cons_succ]
          refine Segs.WQ.val 3 rfl (some 53) (.slice VA VN VC) rfl (by kernel_rfl) (fun WW hG => Segs.run_cell 72 (.tmp 52) rfl z.b 1 (by kernel_rfl) _ (isAggNs _) hG.1) ?_
          simp only [Act.put, List.setIfInBounds_toArray, List.set_cons_zero, List.set_cons_succ]
          refine Segs.WQ.val 4 rfl (some 54) (.int .i64 (VN : Int)) rfl (by kernel_rfl) (fun WW hG => by kernel_rfl) ?_
          simp only [Act.put, List.setIfInBounds_toArray, List.set_cons_zero, List.set_cons_succ]
          refine Segs.WQ.val 5 rfl (some 55) (.pointer (some ⟨m, 0, none⟩)) rfl (by kernel_rfl) (fun WW hG => Segs.run_cell 53 (.tmp 2) rfl N 0 (by kernel_rfl) _ (isAggFp _) hG.2.1) ?_
          simp only [Act.put, List.setIfInBounds_toArray, List.set_cons_zero, List.set_cons_succ]
          refine Segs.WQ.val 6 rfl (some 56) (.pointer (some ⟨m, 0, none⟩)) rfl (by kernel_rfl) (fun WW hG => by kernel_rfl) ?_
          simp only [Act.put, List.setIfInBounds_toArray, List.set_cons_zero, List.set_cons_succ]
          refine Segs.WQ.val 7 rfl (some 57) (.pointer (some ⟨m, 0, none⟩)) rfl (by kernel_rfl) (fun WW hG => by kernel_rfl) ?_
          simp only [Act.put, List.setIfInBounds_toArray, List.set_cons_zero, List.set_cons_succ]
          refine Segs.WQ.val 8 rfl (some 58) (.int .i64 (R : Int)) rfl (by kernel_rfl) (fun WW hG => Segs.run_cell 3 (.tmp 57) rfl m 0 (by kernel_rfl) _ (isAggI _) hG.2.2) ?_
          simp only [Act.put, List.setIfInBounds_toArray, List.set_cons_zero, List.set_cons_succ]
          refine Segs.WQ.val 9 rfl (some 59) (.bool false) rfl (by kernel_rfl) (fun WW hG => run_lti rfl _ _ (by kernel_rfl) (by kernel_rfl) false Q1.out) ?_
          simp only [Act.put, List.setIfInBounds_toArray, List.set_cons_zero, List.set_cons_succ]
          refine Segs.WQ.aval 10 rfl (some 49) (.bool false) W.drew rfl rfl (by kernel_rfl) (fun h => (by cases h)) ?_
          simp only [Act.put, List.setIfInBounds_toArray, List.set_cons_zero, List.set_cons_succ]
          refine Segs.WQ.fin ?_
          gi_wp2
          refine Segs.wpIn_region_last (fun WW => WW.cell? ⟨z.b, 1, none⟩ = some (.slice VA VN VC) ∧ WW.cell? ⟨N, 0, none⟩ = some (.pointer (some ⟨m, 0, none⟩)) ∧ WW.cell? ⟨m, 0, none⟩ = some (.int .i64 (R : Int))) [(0, false), (1, false), (2, false), (3, false), (4, false), (5, false), (6, false), (7, false), (8, false), (9, true)] (by kernel_rfl) (by kernel_rfl) (by kernel_rfl) (by kernel_rfl) rfl (by kernel_rfl) ⟨c1, cf, cr⟩ ?_
          refine Segs.WQ.val 0 rfl (some 12) (.pointer (some ⟨z.b, 0, none⟩)) rfl (by kernel_rfl) (fun WW hG => by kernel_rfl) ?_
          simp only [Act.put, List.setIfInBounds_toArray, List.set_cons_zero, List.set_cons_succ]
          refine Segs.WQ.val 1 rfl (some 13) (.pointer (some ⟨z.b, 0, none⟩)) rfl (by kernel_rfl) (fun WW hG => by kernel_rfl) ?_
          simp only [Act.put, List.setIfInBounds_toArray, List.set_cons_zero, List.set_cons_succ]
          refine Segs.WQ.val 2 rfl (some 14) (.pointer (some ⟨z.b, 1, none⟩)) rfl (by kernel_rfl) (fun WW hG => by kernel_rfl) ?_
          simp only [Act.put, List.setIfInBounds_toArray, List.set_cons_zero, List.set_cons_succ]
          refine Segs.WQ.val 3 rfl (some 15) (.slice VA VN VC) rfl (by kernel_rfl) (fun WW hG => Segs.run_cell 72 (.tmp 14) rfl z.b 1 (by kernel_rfl) _ (isAggNs _) hG.1) ?_
          simp only [Act.put, List.setIfInBounds_toArray, List.set_cons_zero, List.set_cons_succ]
          refine Segs.WQ.val 4 rfl (some 16) (.int .i64 (VN : Int)) rfl (by kernel_rfl) (fun WW hG => by kernel_rfl) ?_
          simp only [Act.put, List.setIfInBounds_toArray, List.set_cons_zero, List.set_cons_succ]
          refine Segs.WQ.val 5 rfl (some 17) (.pointer (some ⟨m, 0, none⟩)) rfl (by kernel_rfl) (fun WW hG => Segs.run_cell 53 (.tmp 2) rfl N 0 (by kernel_rfl) _ (isAggFp _) hG.2.1) ?_
          simp only [Act.put, List.setIfInBounds_toArray, List.set_cons_zero, List.set_cons_succ]
          refine Segs.WQ.val 6 rfl (some 18) (.pointer (some ⟨m, 0, none⟩)) rfl (by kernel_rfl) (fun WW hG => by kernel_rfl) ?_
          simp only [Act.put, List.setIfInBounds_toArray, List.set_cons_zero, List.set_cons_succ]
          refine Segs.WQ.val 7 rfl (some 19) (.pointer (some ⟨m, 0, none⟩)) rfl (by kernel_rfl) (fun WW hG => by kernel_rfl) ?_
          simp only [Act.put, List.setIfInBounds_toArray, List.set_cons_zero, List.set_cons_succ]
          refine Segs.WQ.val 8 rfl (some 20) (.int .i64 (R : Int)) rfl (by kernel_rfl) (fun WW hG => Segs.run_cell 3 (.tmp 19) rfl m 0 (by kernel_rfl) _ (isAggI _) hG.2.2) ?_
          simp only [Act.put, List.setIfInBounds_toArray, List.set_cons_zero, List.set_cons_succ]
          refine Segs.WQ.aval 9 rfl (some 21) (.bool false) W.drew.drew rfl rfl (run_eqi rfl _ _ (by kernel_rfl) (by kernel_rfl) false Q2.out) (fun h => (by cases h)) ?_
          simp only [Act.put, List.setIfInBounds_toArray, List.set_cons_zero, List.set_cons_succ]
          refine Segs.WQ.fin ?_
          gi_upto_region 7 with (fail)
          have G6 := Lib.hid (PJ.drew (PJ.drew JJ.out))
          have G6h : Hid (atK rs' x.1.1 = some z) := ZX
          have GK := Lib.hid (JJ.out.keeps ((Below.refl _ _).drew.drew)).1
          have GF := Lib.hid (JJ.out.keeps ((Below.refl _ _).drew.drew)).2
          generalize W.drew.drew = W6 at G6 GK GF ⊢
          clear c0 c1 cf cr
          have z6 := G6h.out
          have hr6 := G6.out.fd.ft.each _ (atK_some z6)
          have e0 := hr6.c0
          have ef := hr6.blk.frozen 0
          try simp only at e0 ef
          have OK7 := Lib.hid (fol_off G6.out.fd.ok (G6.out.fd.hit z6).2.2.1 (G6.out.fd.ft.map.wf (x.1.1, z.b) (List.mem_map.2 ⟨_, atK_some z6, rfl⟩)))
          obtain ⟨g7, k7, f7⟩ := G6.out.set_fol z6 false OK7.out
          have G7 := Lib.hid g7
          have K7 := Lib.hid (GK.out.trans k7)
          have F7 := Lib.hid (GF.out.trans f7)
          clear z6 hr6 g7 k7 f7 OK7
          gi_upto_region 8 with (fail)
          try simp only at G7 K7 F7
          generalize W6.setCell ⟨z.b, 0, none⟩ (.bool false) = W7 at G7 K7 F7 ⊢
          have hL7 : L.length ≤ 1000 := LLEN.out
          have b7 := G7.out.box.cell
          have bf7 := G7.out.box.frozen
          obtain ⟨LA, LC, hvL⟩ := own_shape G7.out.row
          have HVL := Lib.hid hvL
          rw [hvL] at b7
          have hpl : L.length + 1 ≤ maxLen := by simp [maxLen]; omega
          have hpb : (L.length + 1) * 8 ≤ 140737488355328 := by omega
          have hW2 : N + 4 ≤ (W7.alloc (.cells #[.int .i64 x.1.1] 3)).heap.size := by have := G7.out.size; simp; omega
          have hrow7 : W7.ownsRow (N + 4) 3 1 (.slice LA L.length LC) L.length (L.map (Value.int .i64)) := by rw [← hvL]; exact G7.out.row
          clear hvL e0 ef
          gi_wp2_with (gi_at_builtin; refine wpListIn_append_own_at _ rfl _ _ 60 rfl (N + 4) 3 i0 (.int .i64 0) 1 8 Try.underlying60 hi hz0 hz1 hz2 rfl (by decide) _ _ _ rfl (hrow7.alloc _) ⟨W7.heap.size, 0, none⟩ 1 1 [.int .i64 x.1.1] rfl rfl (cell_one_new _ _ _) (by simp [Value.oneCell']) hpl hpb hW2 ?_; intro v8 w8 hown8 hgrow8 _ hnil8; obtain ⟨g8, cap8, rfl⟩ := ownsRow_succ hown8; obtain ⟨hc8, hf8⟩ := box_kept G7.out.box hrow7 hgrow8)
          try simp only [Act.eval] at hgrow8 hnil8
          obtain ⟨g9, k9, f9⟩ := G7.out.lag hown8 (by rw [HVL.out]; exact hgrow8) (by rw [HVL.out]; exact hnil8)
          refine ⟨K7.out.trans k9, F7.out.trans f9, PI.step g9 ?_ ?_⟩
          · rw [← HT.out]
            unfold Tbl.pushAt
            have e : pushRow T.room n x.1.1 (T.row x.1.1) = ⟨false, z.row.q⟩ := by
              rw [ZR.out]; unfold pushRow Rw.row; simp only [ZF.out, if_true, List.length_map, ← ZN.out, ← HR.out, if_neg HLT.out, if_neg HEQ.out]
            rw [e]
          · have e : lagR T.room x.1.1 (T.row x.1.1) = [x.1.1] := by
              rw [ZR.out]; unfold lagR Rw.row; simp only [ZF.out, if_true, List.length_map, ← ZN.out, ← HR.out, if_neg HLT.out]
            rw [← HT.out, e, HL.out]
  case done =>
    rintro D ys W hD hys ⟨rs', vL, J⟩ hK
    have hk : ys.map (·.1.1) = t.keys := by
      have h1 : ys.map (·.1.1) = (bareF ys).map Prod.fst := by simp [bareF, List.map_map, Function.comp_def]
      rw [h1, hys, HKEYS.out]
    have JJ := Lib.hid J
    rw [hk] at JJ
    have hc := J.box.cell
    have HD := Lib.hid (show w.heap.size ≤ D by have := HN.out; omega)
    have HK := Lib.hid hK
    clear J k2 k3 hblk hmap P0 hlag hys hk
    gi_wp2
    refine ⟨by simp, .inl ⟨_, _, rfl, run_takeDeferred HK.out, ?_⟩⟩
    refine ⟨_, results_tmp rfl _ _ _, vL, rfl, row_monoF (ownsRow_putObj JJ.out.row _ HK.out rfl) (by have := HN.out; omega), ?_⟩
    refine Fs.took (D := D) ⟨rs', JJ.out.fd, JJ.out.far, fun k hk => ?_⟩ HK.out HD.out _
    rcases JJ.out.new k hk with e | e
    · exact .inl e
    · exact .inr (by have := HN.out; omega)
  case stop =>
    rintro D c pre W hD hp hF hK
    exact hF.elim
end
end Go.Proofs.Ytjladlniilacjaa
