/-
  The document's answer for feed (guillocheref18): Push (written by makers/feepush2.py).
-/
import Derived.Test.YtjladlniilacjaaFeeMid
import Derived.Deep.RegionHeld3
namespace Go.Proofs.Ytjladlniilacjaa
open Go.RowKit Go.Proofs.Fee
set_option linter.unusedVariables false
set_option linter.unusedSimpArgs false
set_option maxRecDepth 100000 in
set_option maxHeartbeats 10000000 in
theorem rfpush_any {N : Nat → Prop} {w : World} {v : Value} {t : Tbl} (hN : ∀ k, w.heap.size ≤ k → N k) (h : Rf N w v t) (ok : t.Ok) (n : Ntc) (AC : Option Addr) (nc cc : Nat) (hch : Chs w (.slice AC nc cc) n.chs) (hl : t.rows.length ≤ 1000) :
    Calls Try.prog 57 #[.agg #[.int .i64 (t.room : Int), v], .agg #[.int .i64 n.ses, .int .i64 n.err, .int .i64 n.block, .string n.root, .slice AC nc cc]] w fun e w' => ∃ v' vl, e = .returned (.tuple #[.agg #[.int .i64 (t.room : Int), v'], vl]) ∧ Rf N w' v' (t.push n).1 ∧ Below w.heap.size w w' ∧ w'.ownsRow w.heap.size 3 1 vl (t.push n).2.length ((t.push n).2.map (Value.int .i64)) := by
  obtain ⟨z, hz⟩ : ∃ z : Int, z = (t.room : Int) := ⟨_, rfl⟩
  rw [← hz]
  have HZ := Lib.hid hz
  obtain ⟨xs0, L0, R0⟩ := h
  obtain ⟨A, c, hv0⟩ := L0.shape
  obtain ⟨m, hm⟩ : ∃ m, m = xs0.length := ⟨_, rfl⟩
  rw [← hm] at hv0
  subst hv0
  have b0 := (((Bl.start w).alloc (.cells #[.int .i64 z, .slice A m c] 58)).alloc (.cells #[.int .i64 n.ses, .int .i64 n.err, .int .i64 n.block, .string n.root, .slice AC nc cc] 63)).alloc (.cells #[.int .i64 0, .slice none 0 0] 58)
  have HN := Lib.hid hN
  have OK := Lib.hid ok
  have S0 : Hid (PL (fun b => (N b ∧ b ≠ w.heap.size + 1 + 1) ∧ b ≠ w.heap.size) w (((w.alloc (.cells #[.int .i64 z, .slice A m c] 58)).alloc (.cells #[.int .i64 n.ses, .int .i64 n.err, .int .i64 n.block, .string n.root, .slice AC nc cc] 63)).alloc (.cells #[.int .i64 0, .slice none 0 0] 58)).heap.size n t z (.slice AC nc cc) 0 (.slice none 0 0) (((w.alloc (.cells #[.int .i64 z, .slice A m c] 58)).alloc (.cells #[.int .i64 n.ses, .int .i64 n.err, .int .i64 n.block, .string n.root, .slice AC nc cc] 63)).alloc (.cells #[.int .i64 0, .slice none 0 0] 58))) := Lib.hid {
    st := ⟨xs0, .slice A m c, L0.keep b0.1.size (fun b hb hn => ⟨⟨⟨⟨hn, by omega⟩, by omega⟩, fun e => by cases e⟩, b0.1.block b hb⟩) (fun g c hg => b0.1.block g hg.lt), by rw [pushTo_zero]; exact R0, ((Blk.new w _ _).alloc _).alloc _⟩
    out := by rw [pushTo_zero]; exact ⟨rfl, .inl ⟨rfl, rfl⟩⟩
    bl := b0
    nb := by have := (Blk.new (w.alloc (.cells #[.int .i64 z, .slice A m c] 58)) 63 #[.int .i64 n.ses, .int .i64 n.err, .int .i64 n.block, .string n.root, .slice AC nc cc]).alloc (.cells #[.int .i64 0, .slice none 0 0] 58); rwa [World.size_alloc] at this
    rb := by have := Blk.new ((w.alloc (.cells #[.int .i64 z, .slice A m c] 58)).alloc (.cells #[.int .i64 n.ses, .int .i64 n.err, .int .i64 n.block, .string n.root, .slice AC nc cc] 63)) 58 #[.int .i64 0, .slice none 0 0]; rwa [World.size_alloc, World.size_alloc] at this
    ch := hch.below b0.1 }
  have B30 : Hid (w.heap.size + 1 + 1 + 1 = (((w.alloc (.cells #[.int .i64 z, .slice A m c] 58)).alloc (.cells #[.int .i64 n.ses, .int .i64 n.err, .int .i64 n.block, .string n.root, .slice AC nc cc] 63)).alloc (.cells #[.int .i64 0, .slice none 0 0] 58)).heap.size) := Lib.hid (by simp)
  have ML : Hid (m = t.rows.length) := Lib.hid (by rw [hm]; exact rowsX_len R0)
  clear hN ok L0 R0 b0 hm hz hch
  go_enter Try.func57, Try.ntmps57
  go_wp2_with fail
  generalize ((w.alloc (.cells #[.int .i64 z, .slice A m c] 58)).alloc (.cells #[.int .i64 n.ses, .int .i64 n.err, .int .i64 n.block, .string n.root, .slice AC nc cc] 63)).alloc (.cells #[.int .i64 0, .slice none 0 0] 58) = w3 at *
  go_loopw [6, 7] (fun vo vi wr => ∃ i : Nat, vi = .int .i64 (i : Int) ∧ i ≤ m ∧ Hid (PL (fun b => (N b ∧ b ≠ w.heap.size + 1 + 1) ∧ b ≠ w.heap.size) w w3.heap.size n t z (.slice AC nc cc) i vo wr)) (fun _ vi _ => m - (intOf vi).toNat)
  case atStart => exact ⟨0, rfl, Nat.zero_le _, S0⟩
  case round =>
    rename_i vo wr
    obtain ⟨i, rfl, hi, HP⟩ := hrel
    obtain ⟨xs, v, hL, hR, hK⟩ := HP.out.st
    obtain ⟨Ai, ci, hvi⟩ := hL.shape
    have hxm : xs.length = m := by
      have h1 := rowsX_len hR
      have h2 : (pushTo n t i).1.rows.length = t.rows.length := by
        have := congrArg List.length (pushTo_ok n OK.out i).2.1
        unfold Tbl.keys at this
        rwa [List.length_map, List.length_map] at this
      rw [h1, h2, ML.out]
    rw [hxm] at hvi
    subst hvi
    have HL := Lib.hid hL
    have HR := Lib.hid hR
    have HK := Lib.hid hK
    have HXM := Lib.hid hxm
    obtain ⟨k0, k1, fk0, fk1⟩ := blk2 hK
    clear hL hR hK hxm
    by_cases hlt : i < m
    · obtain ⟨p, hx⟩ : ∃ x, xs[i]? = some x := ⟨_, List.getElem?_eq_getElem (by rw [HXM.out]; exact hlt)⟩
      obtain ⟨b, o, c', hv, hbl, d0, d1, d2⟩ := HL.out.at_ hx
      rw [HXM.out] at hv
      cases hv
      have i1 : (i : Int) < (m : Int) := by omega
      have wk : IntKind.i64.wrap ((i : Int) + 1) = (i : Int) + 1 := IntWalk.i64_in _ (by have := ML.out; omega)
      have LX := Lib.hid (HL.out.each p (List.mem_of_getElem? hx))
      have HX : Hid ((pushTo n t i).1.rows[i]? = some (p.1, p.2.row)) := Lib.hid (by rw [← HR.out]; unfold rowsX mapK; rw [List.getElem?_map, hx]; rfl)
      have KX : Hid (t.keys[i]? = some p.1) := Lib.hid (by rw [← (pushTo_ok n OK.out i).2.1]; unfold Tbl.keys; rw [List.getElem?_map, HX.out]; rfl)
      have HXX := Lib.hid hx
      obtain ⟨ps, pf, pq, pv⟩ := p
      obtain ⟨A', cq, hv'⟩ := LX.out.shape
      simp only at hv' d0 d1 d2
      subst hv'
      clear hx hbl
      rcases pf with _ | _
      · have SK := Lib.hid (pushTo_skip n OK.out HX.out KX.out rfl)
        go_wp2_with fail
        refine ⟨⟨i + 1, by go_num, by omega, Lib.hid ?_⟩, by simp [intOf]; omega⟩
        have k := (Below.refl wr.heap.size wr).alloc (Nat.le_refl _) (.cells #[.int .i64 ps, .bool false, .slice A' pq.length cq] 74)
        exact {
          st := ⟨xs, _, HL.out.below k, by rw [SK.out.1]; exact HR.out, HK.out.below k⟩
          out := by rw [SK.out.2]; exact World.ownsRow.alloc HP.out.out _
          bl := HP.out.bl.alloc _
          nb := HP.out.nb.below k
          rb := HP.out.rb.below k
          ch := HP.out.ch.below k }
      · have hP := HP.out
        have hs3 : w.heap.size + 1 + 1 < wr.heap.size := hP.rb.lt
        have PM0 := PL.mid (p := (ps, (⟨true, pq, .slice A' pq.length cq⟩ : Rx))) (A := none) (nn := 0) (c := 0) (by have := B30.out; omega) hP HL.out (List.mem_of_getElem? HXX.out) HK.out hs3
        dsimp only at PM0
        have nb1 := hP.nb.alloc (.cells #[.int .i64 ps, .bool true, .slice A' pq.length cq] 74)
        obtain ⟨n0', n1', n2', n3', n4', -⟩ := blk5 nb1
        have BX := Lib.hid ((Blk.new wr 74 #[.int .i64 ps, .bool true, .slice A' pq.length cq]).alloc (.cells #[.int .i64 n.ses, .int .i64 n.err, .int .i64 n.block, .string n.root, .slice AC nc cc] 63))
        have BM := Lib.hid (by have := Blk.new (wr.alloc (.cells #[.int .i64 ps, .bool true, .slice A' pq.length cq] 74)) 63 #[.int .i64 n.ses, .int .i64 n.err, .int .i64 n.block, .string n.root, .slice AC nc cc]; rwa [World.size_alloc] at this)
        obtain ⟨e0, e1, e2, ef0, ef1, ef2⟩ := blk3 BX.out
        obtain ⟨g0, g1, g2, g3, g4, gf0, gf1, gf2, gf3, gf4⟩ := blk5 BM.out
        have GS : Hid (w.heap.size + 1 + 1 < wr.heap.size) := Lib.hid hs3
        have PM4 := Lib.hid (PM0.below ((Below.refl _ _).alloc (Nat.le_refl _) (.cells #[.int .i64 ps, .int .i64 n.err, .int .i64 n.block, .string n.root, .slice AC nc cc] 63)))
        have BM4 := Lib.hid (by have := Blk.new (wr.alloc (.cells #[.int .i64 ps, .bool true, .slice A' pq.length cq] 74)) 63 #[.int .i64 ps, .int .i64 n.err, .int .i64 n.block, .string n.root, .slice AC nc cc]; rwa [World.size_alloc] at this)
        have HN2 : Hid (∀ k, w.heap.size + 1 + 1 < k → (N k ∧ k ≠ w.heap.size + 1 + 1) ∧ k ≠ w.heap.size) := Lib.hid (fun k hk => ⟨⟨HN.out k (by omega), by omega⟩, by omega⟩)
        have PQL : Hid (pq.length ≤ 6) := Lib.hid (by
          have h1 := (pushTo_ok n OK.out i).1
          have h2 := h1.len _ (List.mem_of_getElem? HX.out)
          have h3 := (pushTo_ok n OK.out i).2.2
          have h4 := OK.out.room
          unfold Row.Ok at h2
          rw [h3] at h2
          simp only [Rx.row, List.length_map] at h2
          omega)
        clear hP hs3 PM0 nb1
        go_upto_region 9 with (fail)
        generalize (wr.alloc (.cells #[.int .i64 ps, .bool true, .slice A' pq.length cq] 74)).alloc (.cells #[.int .i64 ps, .int .i64 n.err, .int .i64 n.block, .string n.root, .slice AC nc cc] 63) = w4 at *
        clear n0' n1' n2' n3' n4' e0 e1 e2 ef0 ef1 ef2 g0 g1 g2 g3 g4 gf0 gf1 gf2 gf3 gf4 k0 k1 fk0 fk1 d0 d1 d2 BX BM
        obtain ⟨k0, k1, fk0, fk1⟩ := blk2 PM4.out.fb
        obtain ⟨e0, e1, e2, ef0, ef1, ef2⟩ := blk3 PM4.out.xb
        obtain ⟨g0, g1, g2, g3, g4, gf0, gf1, gf2, gf3, gf4⟩ := blk5 BM4.out
        generalize wr.heap.size = g at *
        by_cases hroom : pq.length < t.room
        · have y1 : ¬ z ≤ (pq.length : Int) := by have := HZ.out; omega
          have y2 : (pq.length : Int) ≤ z := by have := HZ.out; omega
          have HRM := Lib.hid hroom
          have PN := pushTo_next n OK.out HX.out KX.out
          have hq : (pq.map Prod.fst).length < t.room := by rw [List.length_map]; exact hroom
          rw [if_pos hq, if_pos hq, List.append_nil, ← HR.out] at PN
          have LN := Lib.hid PN.2
          have RN : Hid ((pushTo n t (i + 1)).1.rows = (rowsX xs).set i (ps, (⟨true, pq ++ [(({ n with ses := ps } : Ntc), .slice AC nc cc)], .slice none 0 0⟩ : Rx).row)) := Lib.hid (PN.1.trans (by simp [Rx.row]))
          have HM : Hid (Chs w4 (.slice AC nc cc) n.chs) := Lib.hid PM4.out.ch
          clear hroom PN hq
          go_upto_region 14 with (fail)
          have NE := none_lit w4 63 5
          have L1 : Hid (((w4.alloc (.cells #[] 63)).drew).ownsRow w4.heap.size 63 5 (.slice (some ⟨w4.heap.size, 0, none⟩) 0 0) 0 []) := Lib.hid (own_drewN NE 1)
          have L2 : Hid ((((w4.alloc (.cells #[] 63)).alloc (.cells #[.int .i64 ps, .int .i64 n.err, .int .i64 n.block, .string n.root, .slice AC nc cc] 63)).drew).ownsRow w4.heap.size 63 5 (.slice (some ⟨w4.heap.size, 0, none⟩) 0 0) 0 []) := Lib.hid (own_drewN (World.ownsRow.alloc NE _) 1)
          have L3 : Hid ((((w4.alloc (.cells #[.int .i64 ps, .int .i64 n.err, .int .i64 n.block, .string n.root, .slice AC nc cc] 63)).alloc (.cells #[] 63)).drew).ownsRow w4.heap.size 63 5 (.slice (some ⟨w4.heap.size + 1, 0, none⟩) 0 0) 0 []) := Lib.hid (own_drewN (row_monoF (by have := none_lit (w4.alloc (.cells #[.int .i64 ps, .int .i64 n.err, .int .i64 n.block, .string n.root, .slice AC nc cc] 63)) 63 5; rwa [World.size_alloc] at this) (Nat.le_succ _)) 1)
          have B1 : Hid (Bl w4.heap.size w4 ((w4.alloc (.cells #[] 63)).drew)) := Lib.hid (((Bl.start w4).alloc _).drewN 1)
          have B2 : Hid (Bl w4.heap.size w4 (((w4.alloc (.cells #[] 63)).alloc (.cells #[.int .i64 ps, .int .i64 n.err, .int .i64 n.block, .string n.root, .slice AC nc cc] 63)).drew)) := Lib.hid ((((Bl.start w4).alloc _).alloc _).drewN 1)
          have B3 : Hid (Bl w4.heap.size w4 (((w4.alloc (.cells #[.int .i64 ps, .int .i64 n.err, .int .i64 n.block, .string n.root, .slice AC nc cc] 63)).alloc (.cells #[] 63)).drew)) := Lib.hid ((((Bl.start w4).alloc _).alloc _).drewN 1)
          have M2 : Hid (Blk (((w4.alloc (.cells #[] 63)).alloc (.cells #[.int .i64 ps, .int .i64 n.err, .int .i64 n.block, .string n.root, .slice AC nc cc] 63)).drew) (w4.heap.size + 1) 63 #[.int .i64 ps, .int .i64 n.err, .int .i64 n.block, .string n.root, .slice AC nc cc]) := Lib.hid (by have := Blk.new (w4.alloc (.cells #[] 63)) 63 #[.int .i64 ps, .int .i64 n.err, .int .i64 n.block, .string n.root, .slice AC nc cc]; rw [World.size_alloc] at this; exact this)
          have M3 : Hid (Blk (((w4.alloc (.cells #[.int .i64 ps, .int .i64 n.err, .int .i64 n.block, .string n.root, .slice AC nc cc] 63)).alloc (.cells #[] 63)).drew) w4.heap.size 63 #[.int .i64 ps, .int .i64 n.err, .int .i64 n.block, .string n.root, .slice AC nc cc]) := Lib.hid ((Blk.new w4 63 #[.int .i64 ps, .int .i64 n.err, .int .i64 n.block, .string n.root, .slice AC nc cc]).alloc _)
          have SQ : Hid (∀ W, Below w4.heap.size w4 W → Sh _ W A' (flatN pq)) := Lib.hid (fun W h => PM4.out.sh_ntc.below h)
          have FL : Hid ((flatN pq).length = pq.length * 5) := Lib.hid (flatN_length pq)
          have ON := Lib.hid PM4.out.one_ntc
          have N1 : Hid (0 + pq.length ≤ 1000000) := Lib.hid (by have := PQL.out; omega)
          have N3 : Hid (pq.length + 1 ≤ 1000000) := Lib.hid (by have := PQL.out; omega)
          have OM : Hid (∀ y ∈ ([.int .i64 ps, .int .i64 n.err, .int .i64 n.block, .string n.root, .slice AC nc cc] : List Value), y.oneCell' = true) := Lib.hid (by intro y hy; simp only [List.mem_cons, List.not_mem_nil, or_false] at hy; rcases hy with rfl | rfl | rfl | rfl | rfl <;> rfl)
          have XA0 := Lib.hid (show Blk (w4.alloc (.cells #[] 63)) g _ _ from (PM4.out.xb.alloc _))
          have XB0 := Lib.hid (show Blk (w4.alloc (.cells #[] 63)) (g + 1) _ _ from (BM4.out.alloc _))
          obtain ⟨-, -, xa0, -, -, xf0⟩ := blk3 XA0.out
          obtain ⟨xb00, xb01, xb02, xb03, xb04, -⟩ := blk5 XB0.out
          have XA1 := Lib.hid (show Blk (w4.alloc (.cells #[.int .i64 ps, .int .i64 n.err, .int .i64 n.block, .string n.root, .slice AC nc cc] 63)) g _ _ from (PM4.out.xb.alloc _))
          have XB1 := Lib.hid (show Blk (w4.alloc (.cells #[.int .i64 ps, .int .i64 n.err, .int .i64 n.block, .string n.root, .slice AC nc cc] 63)) (g + 1) _ _ from (BM4.out.alloc _))
          obtain ⟨-, -, xa1, -, -, xf1⟩ := blk3 XA1.out
          obtain ⟨xb10, xb11, xb12, xb13, xb14, -⟩ := blk5 XB1.out
          have XA2 := Lib.hid (show Blk ((w4.alloc (.cells #[] 63)).alloc (.cells #[.int .i64 ps, .int .i64 n.err, .int .i64 n.block, .string n.root, .slice AC nc cc] 63)) g _ _ from ((PM4.out.xb.alloc _).alloc _))
          have XB2 := Lib.hid (show Blk ((w4.alloc (.cells #[] 63)).alloc (.cells #[.int .i64 ps, .int .i64 n.err, .int .i64 n.block, .string n.root, .slice AC nc cc] 63)) (g + 1) _ _ from ((BM4.out.alloc _).alloc _))
          obtain ⟨-, -, xa2, -, -, xf2⟩ := blk3 XA2.out
          obtain ⟨xb20, xb21, xb22, xb23, xb24, -⟩ := blk5 XB2.out
          have XA3 := Lib.hid (show Blk ((w4.alloc (.cells #[.int .i64 ps, .int .i64 n.err, .int .i64 n.block, .string n.root, .slice AC nc cc] 63)).alloc (.cells #[] 63)) g _ _ from ((PM4.out.xb.alloc _).alloc _))
          have XB3 := Lib.hid (show Blk ((w4.alloc (.cells #[.int .i64 ps, .int .i64 n.err, .int .i64 n.block, .string n.root, .slice AC nc cc] 63)).alloc (.cells #[] 63)) (g + 1) _ _ from ((BM4.out.alloc _).alloc _))
          obtain ⟨-, -, xa3, -, -, xf3⟩ := blk3 XA3.out
          obtain ⟨xb30, xb31, xb32, xb33, xb34, -⟩ := blk5 XB3.out
          clear NE
          go_region_law (first
              | (refine step_append_shown elemNt infoNtcs rfl (by decide) (by decide) rfl (.tmp 53) (.tmp 55) rfl rfl w4.heap.size _ _ [] _ A' pq.length cq (flatN pq) rfl rfl L1.out FL.out (SQ.out _ B1.out.1) ON.out N1.out B1.out.2 ?_; intro v5 w5 own5 gr5 ob5; clear ob5; rw [List.nil_append, Nat.zero_add] at own5; have b5 := B1.out.grownRow L1.out (Nat.le_refl _) gr5; have B5 := Lib.hid b5; have O5 := Lib.hid own5; (have Y5 := Lib.hid (BM4.out.below b5.1)); (obtain ⟨yb0, yb1, yb2, yb3, yb4, -⟩ := blk5 Y5.out); clear own5 gr5 b5)
              | (refine step_append_shown elemNt infoNtcs rfl (by decide) (by decide) rfl (.tmp 53) (.tmp 55) rfl rfl w4.heap.size _ _ [] _ A' pq.length cq (flatN pq) rfl rfl L2.out FL.out (SQ.out _ B2.out.1) ON.out N1.out B2.out.2 ?_; intro v5 w5 own5 gr5 ob5; clear ob5; rw [List.nil_append, Nat.zero_add] at own5; have b5 := B2.out.grownRow L2.out (Nat.le_refl _) gr5; have B5 := Lib.hid b5; have O5 := Lib.hid own5; (have MB5 := Lib.hid (M2.out.grown gr5 (own_other (by omega)))); clear own5 gr5 b5)
              | (refine step_append_shown elemNt infoNtcs rfl (by decide) (by decide) rfl (.tmp 53) (.tmp 55) rfl rfl w4.heap.size _ _ [] _ A' pq.length cq (flatN pq) rfl rfl L3.out FL.out (SQ.out _ B3.out.1) ON.out N1.out B3.out.2 ?_; intro v5 w5 own5 gr5 ob5; clear ob5; rw [List.nil_append, Nat.zero_add] at own5; have b5 := B3.out.grownRow L3.out (Nat.le_refl _) gr5; have B5 := Lib.hid b5; have O5 := Lib.hid own5; (have MB5 := Lib.hid (M3.out.grown gr5 (own_other (by omega)))); clear own5 gr5 b5)
              | (refine step_append_own elemNt infoNtcs rfl (by decide) (by decide) rfl (.tmp 56) (.tmp 58) rfl rfl w4.heap.size _ _ (flatN pq) w5.heap.size 0 1 1 [.int .i64 ps, .int .i64 n.err, .int .i64 n.block, .string n.root, .slice AC nc cc] rfl rfl (World.ownsRow.alloc O5.out _) rfl (fun j y h => new_cells w5 63 [.int .i64 ps, .int .i64 n.err, .int .i64 n.block, .string n.root, .slice AC nc cc] j y h) OM.out N3.out (B5.out.alloc _).2 ?_; intro v6 w6 own6 gr6 ob6; clear ob6; have b6 := (B5.out.alloc _).grownRow (World.ownsRow.alloc O5.out _) (Nat.le_refl _) gr6; have B6 := Lib.hid b6; have O6 := Lib.hid own6; obtain ⟨A6, c6, hv6⟩ := own_shape own6; subst hv6; (obtain ⟨z0, z1, z2, zf0, zf1, zf2⟩ := blk3 (PM4.out.xb.below b6.1)); clear own6 gr6 b6)
              | (refine step_append_own elemNt infoNtcs rfl (by decide) (by decide) rfl (.tmp 56) (.tmp 58) rfl rfl w4.heap.size _ _ (flatN pq) (w4.heap.size + 1) 0 1 1 [.int .i64 ps, .int .i64 n.err, .int .i64 n.block, .string n.root, .slice AC nc cc] rfl rfl O5.out rfl (fun j y h => by rw [Nat.zero_add, MB5.out.cell, ← Array.getElem?_toList]; exact h) OM.out N3.out B5.out.2 ?_; intro v6 w6 own6 gr6 ob6; clear ob6; have b6 := B5.out.grownRow O5.out (Nat.le_refl _) gr6; have B6 := Lib.hid b6; have O6 := Lib.hid own6; obtain ⟨A6, c6, hv6⟩ := own_shape own6; subst hv6; (obtain ⟨z0, z1, z2, zf0, zf1, zf2⟩ := blk3 (PM4.out.xb.below b6.1)); clear own6 gr6 b6)
              | (refine step_append_own elemNt infoNtcs rfl (by decide) (by decide) rfl (.tmp 56) (.tmp 58) rfl rfl w4.heap.size _ _ (flatN pq) w4.heap.size 0 1 1 [.int .i64 ps, .int .i64 n.err, .int .i64 n.block, .string n.root, .slice AC nc cc] rfl rfl O5.out rfl (fun j y h => by rw [Nat.zero_add, MB5.out.cell, ← Array.getElem?_toList]; exact h) OM.out N3.out B5.out.2 ?_; intro v6 w6 own6 gr6 ob6; clear ob6; have b6 := B5.out.grownRow O5.out (Nat.le_refl _) gr6; have B6 := Lib.hid b6; have O6 := Lib.hid own6; obtain ⟨A6, c6, hv6⟩ := own_shape own6; subst hv6; (obtain ⟨z0, z1, z2, zf0, zf1, zf2⟩ := blk3 (PM4.out.xb.below b6.1)); clear own6 gr6 b6))
          all_goals
            have PM9 := Lib.hid (PM.one (m' := ({ n with ses := ps } : Ntc)) (vm := .slice AC nc cc) HN2.out PM4.out (Nat.le_refl _) BM4.out.lt B6.out.1 O6.out HM.out)
            generalize w6.setCell ⟨g, 2, none⟩ (.slice A6 (pq.length + 1) c6) = w9 at *
            clear XA0 XB0 xa0 xf0 xb00 xb01 xb02 xb03 xb04 XA1 XB1 xa1 xf1 xb10 xb11 xb12 xb13 xb14 XA2 XB2 xa2 xf2 xb20 xb21 xb22 xb23 xb24 XA3 XB3 xa3 xf3 xb30 xb31 xb32 xb33 xb34
            clear B6 O6 z0 z1 z2 zf0 zf1 zf2 L1 L2 L3 B1 B2 B3 M2 M3 SQ FL ON N1 N3 OM k0 k1 fk0 fk1 e0 e1 e2 ef0 ef1 ef2 g0 g1 g2 g3 g4 gf0 gf1 gf2 gf3 gf4
            have PMF := Lib.hid (show PM _ w _ n z _ g ps _ _ xs _ (pushTo n t (i + 1)).2 w9 from by rw [LN.out]; exact PM9.out)
            have NL9 := Lib.hid (none_lit w9 74 3)
            have BA9 : Hid (Bl w9.heap.size w9 (w9.alloc (.cells #[] 74))) := Lib.hid ((Bl.start w9).alloc _)
            have SL9 := Lib.hid (PM9.out.sh_line.below BA9.out.1)
            have OL9 := Lib.hid PM9.out.one_line
            have FL9 : Hid ((flatL xs).length = m * 3) := Lib.hid (by rw [flatL_length, HXM.out])
            have N9 : Hid (0 + m ≤ 1000000) := Lib.hid (by have := ML.out; omega)
            obtain ⟨k0, k1, fk0, fk1⟩ := blk2 (PM9.out.fb.alloc (.cells #[] 74))
            go_upto_region 16 with (at_builtin; (refine wpList_append_shown (k := 3) (T := 74) (S := 56) elemLine infoLine rfl (by decide) (by decide) rfl _ _ rfl rfl w9.heap.size _ _ [] _ (some ⟨b, o, none⟩) m ci (flatL xs) rfl rfl NL9.out FL9.out SL9.out OL9.out N9.out BA9.out.2 ?_; intro v10 w10 own10 gr10 ob10; clear ob10; rw [List.nil_append, Nat.zero_add] at own10; have b10 := BA9.out.grownRow NL9.out (Nat.le_refl _) gr10; have B10 := Lib.hid b10; have O10 := Lib.hid own10; clear own10 gr10 b10))
            obtain ⟨g10, c10, hv10, hb10, hl10, ⟨cur, hcur, hcs, hcl⟩, hPL⟩ := PM.fin HN2.out (fun h => h.2 rfl) PMF.out (by rw [HXM.out]; exact hlt) RN.out (by rw [HXM.out]; exact O10.out) B10.out.1
            rw [HXM.out] at hv10 hPL
            subst hv10
            have HPL := Lib.hid hPL
            clear hPL k0 k1 fk0 fk1
            obtain ⟨e0, e1, e2, -, -, -⟩ := blk3 (PM9.out.xb.below B10.out.1)
            have q0 := hcur.frozen (i * 3)
            have q1 := hcur.frozen (i * 3 + 1)
            have q2 := hcur.frozen (i * 3 + 2)
            obtain ⟨k0, k1, fk0, fk1⟩ := blk2 (PM9.out.fb.below B10.out.1)
            have gne : ¬ w.heap.size = g10 := by have := GS.out; have := PM9.out.xb.lt; omega
            rw [HXM.out] at hcl
            obtain ⟨u0c, p0⟩ : ∃ u, w10.cell? ⟨g10, i * 3, none⟩ = some u := ⟨_, by rw [hcur.cell]; exact Array.getElem?_eq_getElem (by omega)⟩
            obtain ⟨u1c, p1⟩ : ∃ u, w10.cell? ⟨g10, i * 3 + 1, none⟩ = some u := ⟨_, by rw [hcur.cell]; exact Array.getElem?_eq_getElem (by omega)⟩
            obtain ⟨u2c, p2⟩ : ∃ u, w10.cell? ⟨g10, i * 3 + 2, none⟩ = some u := ⟨_, by rw [hcur.cell]; exact Array.getElem?_eq_getElem (by omega)⟩
            clear hcur hb10 hl10 hcs hcl
            go_wp2_with fail
            exact ⟨⟨i + 1, by go_num, by omega, HPL⟩, by simp [intOf]; omega⟩
        · have y1 : z ≤ (pq.length : Int) := by have := HZ.out; omega
          have HRM := Lib.hid hroom
          have PN := pushTo_next n OK.out HX.out KX.out
          have hq : ¬ (pq.map Prod.fst).length < t.room := by rw [List.length_map]; exact hroom
          rw [if_neg hq, if_neg hq, ← HR.out] at PN
          have LN := Lib.hid PN.2
          have PNR := Lib.hid PN.1
          clear hroom PN hq
          obtain ⟨n0', n1', n2', n3', n4', -⟩ := blk5 PM4.out.nb
          obtain ⟨u1, u2, u3⟩ := set5 BM4.out PM4.out.bl (by have := GS.out; omega) (.int .i64 ps) (.int .i64 11) (.int .i64 n.block) (.string ⟨#[]⟩) (.slice none 0 0)
          have PMa := Lib.hid (PM4.out.note BM4.out u3 u2).lag
          have BMa := Lib.hid (u1.other (p := ⟨g, 1, none⟩) (by show g + 1 ≠ g; omega) (.bool false))
          dsimp only at PMa
          unfold sets5 at PMa BMa
          clear u1 u2 u3
          go_upto_region 12 with (fail)
          generalize (((((w4.setCell ⟨g + 1, 0, none⟩ (.int .i64 ps)).setCell ⟨g + 1, 1, none⟩ (.int .i64 11)).setCell ⟨g + 1, 2, none⟩ (.int .i64 n.block)).setCell ⟨g + 1, 3, none⟩ (.string ⟨#[]⟩)).setCell ⟨g + 1, 4, none⟩ (.slice none 0 0)).setCell ⟨g, 1, none⟩ (.bool false) = wa at *
          clear n0' n1' n2' n3' n4' k0 k1 fk0 fk1 e0 e1 e2 ef0 ef1 ef2 g0 g1 g2 g3 g4 gf0 gf1 gf2 gf3 gf4
          obtain ⟨e0, e1, e2, ef0, ef1, ef2⟩ := blk3 PMa.out.xb
          have NC := Lib.hid (new_cells wa 3 [.int .i64 ps])
          have NL1 : Hid ((pushTo n t i).2.length + 1 ≤ 1000000) := Lib.hid (by
            have h1 := pushL_len n (t.keys.take i) (t, [])
            have h2 : (t.keys.take i).length ≤ t.keys.length := by rw [List.length_take]; omega
            unfold Tbl.keys at h2
            rw [List.length_map] at h2
            have h3 : ((t, []) : Tbl × List Int).2.length = 0 := rfl
            show (Tbl.pushL n (t, []) (t.keys.take i)).2.length + 1 ≤ _
            unfold Tbl.keys at h1 ⊢
            omega)
          have NL2 : Hid (w3.heap.size ≤ (wa.alloc (.cells #[.int .i64 ps] 3)).heap.size) := Lib.hid (by have := PMa.out.xb.lt; have := GS.out; have := B30.out; simp; omega)
          have BLa := Lib.hid (PMa.out.bl.alloc (.cells #[.int .i64 ps] 3))
          have EA := Lib.hid ((Below.refl wa.heap.size wa).alloc (Nat.le_refl _) (.cells #[.int .i64 ps] 3))
          have BW : Hid (w.heap.size ≤ w3.heap.size) := Lib.hid (by have := B30.out; omega)
          have TYP : Hid (u6.ownBlock ≠ some (g + 1)) := Lib.hid (fun e => by
            obtain ⟨cur, h1⟩ := own_type PMa.out.out e
            exact absurd (blk_type h1 BMa.out) (by decide))
          go_upto_region 13 with (at_builtin; (refine wpList_append_own (k := 1) (T := 3) (S := 60) elemInt1 infoIntF rfl (by decide) (by decide) rfl _ _ rfl rfl w3.heap.size _ _ ((pushTo n t i).2.map (Value.int .i64)) wa.heap.size 0 1 1 [.int .i64 ps] rfl rfl (World.ownsRow.alloc PMa.out.out _) rfl NC.out (by simp [Value.oneCell']) NL1.out NL2.out ?_; intro vb wb ownb grb obb; have PMb := Lib.hid (PMa.out.outs EA.out grb obb ownb (BLa.out.grownRow (World.ownsRow.alloc PMa.out.out _) BW.out grb)); have BMb := Lib.hid ((BMa.out.alloc _).grown grb TYP.out); (obtain ⟨k0, k1, fk0, fk1⟩ := blk2 PMb.out.fb); (obtain ⟨be0, be1, be2, bef0, bef1, bef2⟩ := blk3 PMb.out.xb); (obtain ⟨Ab, cb, hvb⟩ := own_shape ownb); subst hvb; clear ownb grb obb))
          clear e0 e1 e2 ef0 ef1 ef2 NC NL1 NL2 BLa EA BW TYP
          have e0 := be0; have e1 := be1; have e2 := be2; have ef0 := bef0; have ef1 := bef1; have ef2 := bef2
          clear be0 be1 be2 bef0 bef1 bef2
          obtain ⟨g0, g1, g2, g3, g4, gf0, gf1, gf2, gf3, gf4⟩ := blk5 BMb.out
          by_cases heq : pq.length = t.room
          · have y2 : (pq.length : Int) ≤ z := by have := HZ.out; omega
            have RN : Hid ((pushTo n t (i + 1)).1.rows = (rowsX xs).set i (ps, (⟨false, pq ++ [(lagN ps n.block, .slice none 0 0)], .slice none 0 0⟩ : Rx).row)) := Lib.hid (PNR.out.trans (by simp [Rx.row, heq]))
            have HM : Hid (Chs wb (.slice none 0 0) (lagN ps n.block).chs) := Lib.hid (.inl ⟨rfl, rfl⟩)
            clear heq
            go_upto_region 14 with (fail)
            have NE := none_lit wb 63 5
            have L1 : Hid (((wb.alloc (.cells #[] 63)).drew).ownsRow wb.heap.size 63 5 (.slice (some ⟨wb.heap.size, 0, none⟩) 0 0) 0 []) := Lib.hid (own_drewN NE 1)
            have L2 : Hid ((((wb.alloc (.cells #[] 63)).alloc (.cells #[.int .i64 ps, .int .i64 11, .int .i64 n.block, .string ⟨#[]⟩, .slice none 0 0] 63)).drew).ownsRow wb.heap.size 63 5 (.slice (some ⟨wb.heap.size, 0, none⟩) 0 0) 0 []) := Lib.hid (own_drewN (World.ownsRow.alloc NE _) 1)
            have L3 : Hid ((((wb.alloc (.cells #[.int .i64 ps, .int .i64 11, .int .i64 n.block, .string ⟨#[]⟩, .slice none 0 0] 63)).alloc (.cells #[] 63)).drew).ownsRow wb.heap.size 63 5 (.slice (some ⟨wb.heap.size + 1, 0, none⟩) 0 0) 0 []) := Lib.hid (own_drewN (row_monoF (by have := none_lit (wb.alloc (.cells #[.int .i64 ps, .int .i64 11, .int .i64 n.block, .string ⟨#[]⟩, .slice none 0 0] 63)) 63 5; rwa [World.size_alloc] at this) (Nat.le_succ _)) 1)
            have B1 : Hid (Bl wb.heap.size wb ((wb.alloc (.cells #[] 63)).drew)) := Lib.hid (((Bl.start wb).alloc _).drewN 1)
            have B2 : Hid (Bl wb.heap.size wb (((wb.alloc (.cells #[] 63)).alloc (.cells #[.int .i64 ps, .int .i64 11, .int .i64 n.block, .string ⟨#[]⟩, .slice none 0 0] 63)).drew)) := Lib.hid ((((Bl.start wb).alloc _).alloc _).drewN 1)
            have B3 : Hid (Bl wb.heap.size wb (((wb.alloc (.cells #[.int .i64 ps, .int .i64 11, .int .i64 n.block, .string ⟨#[]⟩, .slice none 0 0] 63)).alloc (.cells #[] 63)).drew)) := Lib.hid ((((Bl.start wb).alloc _).alloc _).drewN 1)
            have M2 : Hid (Blk (((wb.alloc (.cells #[] 63)).alloc (.cells #[.int .i64 ps, .int .i64 11, .int .i64 n.block, .string ⟨#[]⟩, .slice none 0 0] 63)).drew) (wb.heap.size + 1) 63 #[.int .i64 ps, .int .i64 11, .int .i64 n.block, .string ⟨#[]⟩, .slice none 0 0]) := Lib.hid (by have := Blk.new (wb.alloc (.cells #[] 63)) 63 #[.int .i64 ps, .int .i64 11, .int .i64 n.block, .string ⟨#[]⟩, .slice none 0 0]; rw [World.size_alloc] at this; exact this)
            have M3 : Hid (Blk (((wb.alloc (.cells #[.int .i64 ps, .int .i64 11, .int .i64 n.block, .string ⟨#[]⟩, .slice none 0 0] 63)).alloc (.cells #[] 63)).drew) wb.heap.size 63 #[.int .i64 ps, .int .i64 11, .int .i64 n.block, .string ⟨#[]⟩, .slice none 0 0]) := Lib.hid ((Blk.new wb 63 #[.int .i64 ps, .int .i64 11, .int .i64 n.block, .string ⟨#[]⟩, .slice none 0 0]).alloc _)
            have SQ : Hid (∀ W, Below wb.heap.size wb W → Sh _ W A' (flatN pq)) := Lib.hid (fun W h => PMb.out.sh_ntc.below h)
            have FL : Hid ((flatN pq).length = pq.length * 5) := Lib.hid (flatN_length pq)
            have ON := Lib.hid PMb.out.one_ntc
            have N1 : Hid (0 + pq.length ≤ 1000000) := Lib.hid (by have := PQL.out; omega)
            have N3 : Hid (pq.length + 1 ≤ 1000000) := Lib.hid (by have := PQL.out; omega)
            have OM : Hid (∀ y ∈ ([.int .i64 ps, .int .i64 11, .int .i64 n.block, .string ⟨#[]⟩, .slice none 0 0] : List Value), y.oneCell' = true) := Lib.hid (by intro y hy; simp only [List.mem_cons, List.not_mem_nil, or_false] at hy; rcases hy with rfl | rfl | rfl | rfl | rfl <;> rfl)
            have XA0 := Lib.hid (show Blk (wb.alloc (.cells #[] 63)) g _ _ from (PMb.out.xb.alloc _))
            have XB0 := Lib.hid (show Blk (wb.alloc (.cells #[] 63)) (g + 1) _ _ from (BMb.out.alloc _))
            obtain ⟨-, -, xa0, -, -, xf0⟩ := blk3 XA0.out
            obtain ⟨xb00, xb01, xb02, xb03, xb04, -⟩ := blk5 XB0.out
            have XA1 := Lib.hid (show Blk (wb.alloc (.cells #[.int .i64 ps, .int .i64 11, .int .i64 n.block, .string ⟨#[]⟩, .slice none 0 0] 63)) g _ _ from (PMb.out.xb.alloc _))
            have XB1 := Lib.hid (show Blk (wb.alloc (.cells #[.int .i64 ps, .int .i64 11, .int .i64 n.block, .string ⟨#[]⟩, .slice none 0 0] 63)) (g + 1) _ _ from (BMb.out.alloc _))
            obtain ⟨-, -, xa1, -, -, xf1⟩ := blk3 XA1.out
            obtain ⟨xb10, xb11, xb12, xb13, xb14, -⟩ := blk5 XB1.out
            have XA2 := Lib.hid (show Blk ((wb.alloc (.cells #[] 63)).alloc (.cells #[.int .i64 ps, .int .i64 11, .int .i64 n.block, .string ⟨#[]⟩, .slice none 0 0] 63)) g _ _ from ((PMb.out.xb.alloc _).alloc _))
            have XB2 := Lib.hid (show Blk ((wb.alloc (.cells #[] 63)).alloc (.cells #[.int .i64 ps, .int .i64 11, .int .i64 n.block, .string ⟨#[]⟩, .slice none 0 0] 63)) (g + 1) _ _ from ((BMb.out.alloc _).alloc _))
            obtain ⟨-, -, xa2, -, -, xf2⟩ := blk3 XA2.out
            obtain ⟨xb20, xb21, xb22, xb23, xb24, -⟩ := blk5 XB2.out
            have XA3 := Lib.hid (show Blk ((wb.alloc (.cells #[.int .i64 ps, .int .i64 11, .int .i64 n.block, .string ⟨#[]⟩, .slice none 0 0] 63)).alloc (.cells #[] 63)) g _ _ from ((PMb.out.xb.alloc _).alloc _))
            have XB3 := Lib.hid (show Blk ((wb.alloc (.cells #[.int .i64 ps, .int .i64 11, .int .i64 n.block, .string ⟨#[]⟩, .slice none 0 0] 63)).alloc (.cells #[] 63)) (g + 1) _ _ from ((BMb.out.alloc _).alloc _))
            obtain ⟨-, -, xa3, -, -, xf3⟩ := blk3 XA3.out
            obtain ⟨xb30, xb31, xb32, xb33, xb34, -⟩ := blk5 XB3.out
            clear NE
            go_region_law (first
                | (refine step_append_shown elemNt infoNtcs rfl (by decide) (by decide) rfl (.tmp 53) (.tmp 55) rfl rfl wb.heap.size _ _ [] _ A' pq.length cq (flatN pq) rfl rfl L1.out FL.out (SQ.out _ B1.out.1) ON.out N1.out B1.out.2 ?_; intro v5 w5 own5 gr5 ob5; clear ob5; rw [List.nil_append, Nat.zero_add] at own5; have b5 := B1.out.grownRow L1.out (Nat.le_refl _) gr5; have B5 := Lib.hid b5; have O5 := Lib.hid own5; (have Y5 := Lib.hid (BMb.out.below b5.1)); (obtain ⟨yb0, yb1, yb2, yb3, yb4, -⟩ := blk5 Y5.out); clear own5 gr5 b5)
                | (refine step_append_shown elemNt infoNtcs rfl (by decide) (by decide) rfl (.tmp 53) (.tmp 55) rfl rfl wb.heap.size _ _ [] _ A' pq.length cq (flatN pq) rfl rfl L2.out FL.out (SQ.out _ B2.out.1) ON.out N1.out B2.out.2 ?_; intro v5 w5 own5 gr5 ob5; clear ob5; rw [List.nil_append, Nat.zero_add] at own5; have b5 := B2.out.grownRow L2.out (Nat.le_refl _) gr5; have B5 := Lib.hid b5; have O5 := Lib.hid own5; (have MB5 := Lib.hid (M2.out.grown gr5 (own_other (by omega)))); clear own5 gr5 b5)
                | (refine step_append_shown elemNt infoNtcs rfl (by decide) (by decide) rfl (.tmp 53) (.tmp 55) rfl rfl wb.heap.size _ _ [] _ A' pq.length cq (flatN pq) rfl rfl L3.out FL.out (SQ.out _ B3.out.1) ON.out N1.out B3.out.2 ?_; intro v5 w5 own5 gr5 ob5; clear ob5; rw [List.nil_append, Nat.zero_add] at own5; have b5 := B3.out.grownRow L3.out (Nat.le_refl _) gr5; have B5 := Lib.hid b5; have O5 := Lib.hid own5; (have MB5 := Lib.hid (M3.out.grown gr5 (own_other (by omega)))); clear own5 gr5 b5)
                | (refine step_append_own elemNt infoNtcs rfl (by decide) (by decide) rfl (.tmp 56) (.tmp 58) rfl rfl wb.heap.size _ _ (flatN pq) w5.heap.size 0 1 1 [.int .i64 ps, .int .i64 11, .int .i64 n.block, .string ⟨#[]⟩, .slice none 0 0] rfl rfl (World.ownsRow.alloc O5.out _) rfl (fun j y h => new_cells w5 63 [.int .i64 ps, .int .i64 11, .int .i64 n.block, .string ⟨#[]⟩, .slice none 0 0] j y h) OM.out N3.out (B5.out.alloc _).2 ?_; intro v6 w6 own6 gr6 ob6; clear ob6; have b6 := (B5.out.alloc _).grownRow (World.ownsRow.alloc O5.out _) (Nat.le_refl _) gr6; have B6 := Lib.hid b6; have O6 := Lib.hid own6; obtain ⟨A6, c6, hv6⟩ := own_shape own6; subst hv6; (obtain ⟨z0, z1, z2, zf0, zf1, zf2⟩ := blk3 (PMb.out.xb.below b6.1)); clear own6 gr6 b6)
                | (refine step_append_own elemNt infoNtcs rfl (by decide) (by decide) rfl (.tmp 56) (.tmp 58) rfl rfl wb.heap.size _ _ (flatN pq) (wb.heap.size + 1) 0 1 1 [.int .i64 ps, .int .i64 11, .int .i64 n.block, .string ⟨#[]⟩, .slice none 0 0] rfl rfl O5.out rfl (fun j y h => by rw [Nat.zero_add, MB5.out.cell, ← Array.getElem?_toList]; exact h) OM.out N3.out B5.out.2 ?_; intro v6 w6 own6 gr6 ob6; clear ob6; have b6 := B5.out.grownRow O5.out (Nat.le_refl _) gr6; have B6 := Lib.hid b6; have O6 := Lib.hid own6; obtain ⟨A6, c6, hv6⟩ := own_shape own6; subst hv6; (obtain ⟨z0, z1, z2, zf0, zf1, zf2⟩ := blk3 (PMb.out.xb.below b6.1)); clear own6 gr6 b6)
                | (refine step_append_own elemNt infoNtcs rfl (by decide) (by decide) rfl (.tmp 56) (.tmp 58) rfl rfl wb.heap.size _ _ (flatN pq) wb.heap.size 0 1 1 [.int .i64 ps, .int .i64 11, .int .i64 n.block, .string ⟨#[]⟩, .slice none 0 0] rfl rfl O5.out rfl (fun j y h => by rw [Nat.zero_add, MB5.out.cell, ← Array.getElem?_toList]; exact h) OM.out N3.out B5.out.2 ?_; intro v6 w6 own6 gr6 ob6; clear ob6; have b6 := B5.out.grownRow O5.out (Nat.le_refl _) gr6; have B6 := Lib.hid b6; have O6 := Lib.hid own6; obtain ⟨A6, c6, hv6⟩ := own_shape own6; subst hv6; (obtain ⟨z0, z1, z2, zf0, zf1, zf2⟩ := blk3 (PMb.out.xb.below b6.1)); clear own6 gr6 b6))
            all_goals
              have PM9 := Lib.hid (PM.one (m' := (lagN ps n.block)) (vm := .slice none 0 0) HN2.out PMb.out (Nat.le_refl _) BMb.out.lt B6.out.1 O6.out HM.out)
              generalize w6.setCell ⟨g, 2, none⟩ (.slice A6 (pq.length + 1) c6) = w9 at *
              clear XA0 XB0 xa0 xf0 xb00 xb01 xb02 xb03 xb04 XA1 XB1 xa1 xf1 xb10 xb11 xb12 xb13 xb14 XA2 XB2 xa2 xf2 xb20 xb21 xb22 xb23 xb24 XA3 XB3 xa3 xf3 xb30 xb31 xb32 xb33 xb34
              clear B6 O6 z0 z1 z2 zf0 zf1 zf2 L1 L2 L3 B1 B2 B3 M2 M3 SQ FL ON N1 N3 OM k0 k1 fk0 fk1 e0 e1 e2 ef0 ef1 ef2 g0 g1 g2 g3 g4 gf0 gf1 gf2 gf3 gf4
              have PMF := Lib.hid (show PM _ w _ n z _ g ps _ _ xs _ (pushTo n t (i + 1)).2 w9 from by rw [LN.out]; exact PM9.out)
              have NL9 := Lib.hid (none_lit w9 74 3)
              have BA9 : Hid (Bl w9.heap.size w9 (w9.alloc (.cells #[] 74))) := Lib.hid ((Bl.start w9).alloc _)
              have SL9 := Lib.hid (PM9.out.sh_line.below BA9.out.1)
              have OL9 := Lib.hid PM9.out.one_line
              have FL9 : Hid ((flatL xs).length = m * 3) := Lib.hid (by rw [flatL_length, HXM.out])
              have N9 : Hid (0 + m ≤ 1000000) := Lib.hid (by have := ML.out; omega)
              obtain ⟨k0, k1, fk0, fk1⟩ := blk2 (PM9.out.fb.alloc (.cells #[] 74))
              go_upto_region 16 with (at_builtin; (refine wpList_append_shown (k := 3) (T := 74) (S := 56) elemLine infoLine rfl (by decide) (by decide) rfl _ _ rfl rfl w9.heap.size _ _ [] _ (some ⟨b, o, none⟩) m ci (flatL xs) rfl rfl NL9.out FL9.out SL9.out OL9.out N9.out BA9.out.2 ?_; intro v10 w10 own10 gr10 ob10; clear ob10; rw [List.nil_append, Nat.zero_add] at own10; have b10 := BA9.out.grownRow NL9.out (Nat.le_refl _) gr10; have B10 := Lib.hid b10; have O10 := Lib.hid own10; clear own10 gr10 b10))
              obtain ⟨g10, c10, hv10, hb10, hl10, ⟨cur, hcur, hcs, hcl⟩, hPL⟩ := PM.fin HN2.out (fun h => h.2 rfl) PMF.out (by rw [HXM.out]; exact hlt) RN.out (by rw [HXM.out]; exact O10.out) B10.out.1
              rw [HXM.out] at hv10 hPL
              subst hv10
              have HPL := Lib.hid hPL
              clear hPL k0 k1 fk0 fk1
              obtain ⟨e0, e1, e2, -, -, -⟩ := blk3 (PM9.out.xb.below B10.out.1)
              have q0 := hcur.frozen (i * 3)
              have q1 := hcur.frozen (i * 3 + 1)
              have q2 := hcur.frozen (i * 3 + 2)
              obtain ⟨k0, k1, fk0, fk1⟩ := blk2 (PM9.out.fb.below B10.out.1)
              have gne : ¬ w.heap.size = g10 := by have := GS.out; have := PM9.out.xb.lt; omega
              rw [HXM.out] at hcl
              obtain ⟨u0c, p0⟩ : ∃ u, w10.cell? ⟨g10, i * 3, none⟩ = some u := ⟨_, by rw [hcur.cell]; exact Array.getElem?_eq_getElem (by omega)⟩
              obtain ⟨u1c, p1⟩ : ∃ u, w10.cell? ⟨g10, i * 3 + 1, none⟩ = some u := ⟨_, by rw [hcur.cell]; exact Array.getElem?_eq_getElem (by omega)⟩
              obtain ⟨u2c, p2⟩ : ∃ u, w10.cell? ⟨g10, i * 3 + 2, none⟩ = some u := ⟨_, by rw [hcur.cell]; exact Array.getElem?_eq_getElem (by omega)⟩
              clear hcur hb10 hl10 hcs hcl
              go_wp2_with fail
              exact ⟨⟨i + 1, by go_num, by omega, HPL⟩, by simp [intOf]; omega⟩
          · have y2 : ¬ (pq.length : Int) ≤ z := by have := HZ.out; have := HRM.out; omega
            have RN : Hid ((pushTo n t (i + 1)).1.rows = (rowsX xs).set i (ps, (⟨false, pq, .slice none 0 0⟩ : Rx).row)) := Lib.hid (PNR.out.trans (by simp [Rx.row, heq]))
            clear heq
            go_upto_region 15 with (fail)
            have PM9 := PMb
            clear k0 k1 fk0 fk1 e0 e1 e2 ef0 ef1 ef2 g0 g1 g2 g3 g4 gf0 gf1 gf2 gf3 gf4
            have PMF := Lib.hid (show PM _ w _ n z _ g ps _ _ xs _ (pushTo n t (i + 1)).2 wb from by rw [LN.out]; exact PM9.out)
            have NL9 := Lib.hid (none_lit wb 74 3)
            have BA9 : Hid (Bl wb.heap.size wb (wb.alloc (.cells #[] 74))) := Lib.hid ((Bl.start wb).alloc _)
            have SL9 := Lib.hid (PM9.out.sh_line.below BA9.out.1)
            have OL9 := Lib.hid PM9.out.one_line
            have FL9 : Hid ((flatL xs).length = m * 3) := Lib.hid (by rw [flatL_length, HXM.out])
            have N9 : Hid (0 + m ≤ 1000000) := Lib.hid (by have := ML.out; omega)
            obtain ⟨k0, k1, fk0, fk1⟩ := blk2 (PM9.out.fb.alloc (.cells #[] 74))
            go_upto_region 16 with (at_builtin; (refine wpList_append_shown (k := 3) (T := 74) (S := 56) elemLine infoLine rfl (by decide) (by decide) rfl _ _ rfl rfl wb.heap.size _ _ [] _ (some ⟨b, o, none⟩) m ci (flatL xs) rfl rfl NL9.out FL9.out SL9.out OL9.out N9.out BA9.out.2 ?_; intro v10 w10 own10 gr10 ob10; clear ob10; rw [List.nil_append, Nat.zero_add] at own10; have b10 := BA9.out.grownRow NL9.out (Nat.le_refl _) gr10; have B10 := Lib.hid b10; have O10 := Lib.hid own10; clear own10 gr10 b10))
            obtain ⟨g10, c10, hv10, hb10, hl10, ⟨cur, hcur, hcs, hcl⟩, hPL⟩ := PM.fin HN2.out (fun h => h.2 rfl) PMF.out (by rw [HXM.out]; exact hlt) RN.out (by rw [HXM.out]; exact O10.out) B10.out.1
            rw [HXM.out] at hv10 hPL
            subst hv10
            have HPL := Lib.hid hPL
            clear hPL k0 k1 fk0 fk1
            obtain ⟨e0, e1, e2, -, -, -⟩ := blk3 (PM9.out.xb.below B10.out.1)
            have q0 := hcur.frozen (i * 3)
            have q1 := hcur.frozen (i * 3 + 1)
            have q2 := hcur.frozen (i * 3 + 2)
            obtain ⟨k0, k1, fk0, fk1⟩ := blk2 (PM9.out.fb.below B10.out.1)
            have gne : ¬ w.heap.size = g10 := by have := GS.out; have := PM9.out.xb.lt; omega
            rw [HXM.out] at hcl
            obtain ⟨u0c, p0⟩ : ∃ u, w10.cell? ⟨g10, i * 3, none⟩ = some u := ⟨_, by rw [hcur.cell]; exact Array.getElem?_eq_getElem (by omega)⟩
            obtain ⟨u1c, p1⟩ : ∃ u, w10.cell? ⟨g10, i * 3 + 1, none⟩ = some u := ⟨_, by rw [hcur.cell]; exact Array.getElem?_eq_getElem (by omega)⟩
            obtain ⟨u2c, p2⟩ : ∃ u, w10.cell? ⟨g10, i * 3 + 2, none⟩ = some u := ⟨_, by rw [hcur.cell]; exact Array.getElem?_eq_getElem (by omega)⟩
            clear hcur hb10 hl10 hcs hcl
            go_wp2_with fail
            exact ⟨⟨i + 1, by go_num, by omega, HPL⟩, by simp [intOf]; omega⟩
    · obtain rfl : i = m := by omega
      have PA := Lib.hid (pushTo_all n t)
      rw [← ML.out] at PA
      have hP := HP.out
      obtain ⟨r0, r1, fr0, fr1⟩ := blk2 hP.rb
      obtain ⟨Ao, co, hvo⟩ := own_shape hP.out
      subst hvo
      have HO := Lib.hid hP.out
      have BL := Lib.hid hP.bl
      have RB := Lib.hid hP.rb
      have BZ : Hid (w.heap.size + 1 + 1 + 1 = w3.heap.size) := B30
      clear hP HP fk0 fk1
      go_wp2_with fail
      obtain ⟨u1, u2, u3⟩ := set2 RB.out BL.out (by omega) (.int .i64 z) (.slice Ai i ci)
      refine bodyPost_ret (results_f2 rfl _ _ _ rfl rfl u1) rfl ⟨.slice Ai i ci, _, rfl, ⟨xs, ?_, ?_⟩, u2.1, ?_⟩
      · exact HL.out.keep u3.size (fun b hb hn => ⟨hn.1.1.1, u3.block b hb hn.1.1.2⟩) (fun g c hg => u3.block g hg.lt (fun e => absurd (blk_type (e ▸ hg) RB.out) (by decide)))
      · rw [HR.out, PA.out]
      · rw [← PA.out]
        exact row_monoF (own_far HO.out u3 (fun b hb e => by have := (HO.out.lt b hb).1; have := BZ.out; omega)) (by have := BZ.out; omega)
end Go.Proofs.Ytjladlniilacjaa
