/-
  The walk of the law FeedDoes (written by makers/feedoes.py).
-/
import Derived.Test.YtjladlniilacjaaFeeThin
import Derived.Test.YtjladlniilacjaaFeeWorks
import Derived.Test.YtjladlniilacjaaLeaNum
import Derived.Test.YtjladlniilacjaaWalkQ
import Derived.Deep.RegionHeld3
import Derived.Deep.CutRange
namespace Go.Proofs.Ytjladlniilacjaa
open Go.RowKit Go.Proofs.Fee
set_option linter.unusedVariables false
set_option linter.unusedSimpArgs false
set_option maxRecDepth 100000 in
set_option maxHeartbeats 4000000 in
theorem does_walk (w : World) (a0 : Int) (A1 : Option Addr) (c1 : Nat) (l1 : List Deed) (S1 : Lk w A1 l1) (z1 : ∀ x ∈ l1, x.wf) (a2 : Int) (w2 : wfI a2) :
    Calls Try.prog 7 #[.int .i64 a0, .slice A1 l1.length c1, .int .i64 a2] w fun e w' => e = .returned (.bool true) ∧ Below w.heap.size w w' := by
  have HS := Lib.hid S1
  have HZ := Lib.hid z1
  have HW := Lib.hid w2
  clear S1 z1 w2
  go_enter Try.func7, Try.ntmps7
  go_wp2_with fail
  refine (fworks_any _).mono ?_
  rintro e w1 ⟨rfl, hb1⟩
  have HB1 := Lib.hid hb1
  clear hb1
  go_wp2_with fail
  refine (fl_new (w0 := w) a0 HB1.out).mono ?_
  rintro e w2 ⟨rfl, hM, _⟩
  have H2 := Lib.hid hM
  clear hM
  generalize w1.heap.size = B at *
  generalize B + 1 = m at *
  go_wp2_with fail
  refine (ffew_any A1 c1 l1 w2 (HS.out.below H2.out.below)).mono ?_
  rintro e w3 ⟨rfl, rfl⟩
  rcases hf : ffewF l1 with _ | _
  · go_wp2_with fail
    go_ret
    exact ⟨rfl, H2.out.below⟩
  · obtain ⟨hl60, hks⟩ := ffewF_true hf
    clear hf hks
    go_wp2_with fail
    refine (rfnew_any (fun b => ¬ OwnF m B [] b) a0 w2).mono ?_
    rintro e w4 ⟨rfl, hR4, hb4⟩
    have H4 := Lib.hid (H2.out.call hb4)
    have R4 := Lib.hid hR4
    clear hR4 hb4
    have H5 := Lib.hid (H4.out.alloc (.cells #[.int .i64 ((news a0).room : Int), .slice none 0 0] 58))
    have G5 := Lib.hid (H4.out.nblk #[.int .i64 ((news a0).room : Int), .slice none 0 0] 58)
    have R5 : Hid (Rf (NR m B [] w4.heap.size) (w4.alloc (.cells #[.int .i64 ((news a0).room : Int), .slice none 0 0] 58)) (.slice none 0 0) (news a0)) := Lib.hid (R4.out.keep (by simp) (fun b hb hn => ⟨⟨hn, by omega⟩, ((Below.refl w4.heap.size w4).alloc (Nat.le_refl _) _).block b hb⟩) (fun g c hg => ((Below.refl w4.heap.size w4).alloc (Nat.le_refl _) _).block g hg.lt))
    have GB : Hid (w.heap.size ≤ w4.heap.size) := Lib.hid H4.out.below.size
    generalize hro : (news a0).room = room at *
    have RO := Lib.hid hro
    clear hro
    go_upto_region 9 with (fail)
    generalize w4.alloc (.cells #[.int .i64 (room : Int), .slice none 0 0] 58) = w5 at *
    generalize w4.heap.size = G at *
    clear R4 H4
    go_wp2_with fail
    go_loopw [11, 12, 13, 14, 15, 16] (fun vi v12 v13 v14 v15 v16 wr => ∃ k : Nat, vi = .int .i64 (k : Int) ∧ k ≤ l1.length ∧ Hid (∃ t rs v, Fl w B m B t rs wr ∧ t.rows.length ≤ k ∧ t.room = room ∧ t.Full ∧ t.Thin ∧ Rf (NR m B rs G) wr v t ∧ FBlk m B rs G 58 #[.int .i64 (room : Int), v] wr)) (fun vi _ _ _ _ _ _ => l1.length - (intOf vi).toNat)
    case atStart => exact ⟨0, rfl, Nat.zero_le _, Lib.hid ⟨_, _, _, H5.out, Nat.le_refl _, RO.out, full_news a0, thin_news a0, R5.out, G5.out⟩⟩
    case round =>
      obtain ⟨k, rfl, hk, HM⟩ := hrel
      obtain ⟨t, rs, v, hC, hL, hR, hF, hTh, hRf, hG⟩ := HM.out
      have HT := Lib.hid hTh
      have H := Lib.hid hC
      have HL := Lib.hid hL
      have RM := Lib.hid hR
      have HF := Lib.hid hF
      have HR := Lib.hid hRf
      have HG := Lib.hid hG
      clear HM hC hL hR hF hRf hG hTh
      by_cases hlt : k < l1.length
      · obtain ⟨a, ha⟩ : ∃ a, l1[k]? = some a := ⟨_, List.getElem?_eq_getElem hlt⟩
        have hwf := Lib.hid (HZ.out a (List.mem_of_getElem? ha))
        obtain ⟨b, o, rfl, hbl, HC⟩ := (HS.out.below H.out.below).at_ k a ha
        obtain ⟨d0, d1, d2, d3⟩ := HC
        have j1 : (k : Int) < (l1.length : Int) := by omega
        have wk : IntKind.i64.wrap ((k : Int) + 1) = (k : Int) + 1 := IntWalk.i64_in _ (by omega)
        have HA := Lib.hid ha
        clear ha hbl
        go_wp2_with fail
        refine (fl_do H.out a hwf.out (by have := HL.out; omega)).mono ?_
        rintro e w6 ⟨vl, vc, rfl, rs6, h6, kq, hr6, hc6⟩
        obtain ⟨Al, cl, hvl⟩ := own_shape hr6.1
        obtain ⟨Ac, nc, cc, hvc⟩ := hc6.slice
        subst hvl
        subst hvc
        have H6 := Lib.hid h6
        have HR6 := Lib.hid (HR.out.kq H.out kq)
        have HG6 := Lib.hid (kq.blk HG.out)
        have OL6 := Lib.hid hr6
        have HC6 := Lib.hid hc6
        have L6 : Hid ((t.does a).1.rows.length ≤ k + 1) := Lib.hid (by have := does_le H.out.fd.ok a; have := HL.out; omega)
        have F6 : Hid ((t.does a).1.Full) := Lib.hid (HF.out.does H.out.fd.ok a)
        have T6 := Lib.hid (HT.out.does H.out.fd.ok a).1
        have X6 := Lib.hid (HT.out.does H.out.fd.ok a).2
        have TL6 : Hid ((t.does a).2.l.length ≤ k + 1) := Lib.hid (by have := does_list t a; have := HL.out; omega)
        have RM6 : Hid ((t.does a).1.room = room) := Lib.hid ((does_room t a).trans RM.out)
        have OK6 := Lib.hid H.out.fd.ok
        have LT := Lib.hid (show t.rows.length ≤ 1000 by have := HL.out; omega)
        clear h6 hr6 hc6 kq d0 d1 d2 d3 H HR HG
        have BY0 : Hid (∀ (N : Nat → Prop) W v, (∀ k, W.heap.size ≤ k → N k) → Rf N W v t → Calls Try.prog 30 #[.agg #[.int .i64 (room : Int), v], .agg #[.int .i64 a.k, .int .i64 a.s, .int .i64 a.b, .string a.r]] W fun e w' => ∃ v' vl vc, e = .returned (.tuple #[.agg #[.int .i64 (room : Int), v'], .agg (toldF (t.does a).2 vl vc)]) ∧ Rf N w' v' (t.does a).1 ∧ Below W.heap.size W w' ∧ w'.ownsRow W.heap.size 3 1 vl (t.does a).2.l.length ((t.does a).2.l.map (Value.int .i64)) ∧ Chs w' vc (t.does a).2.x.chs) := Lib.hid (fun N W v hN h => by have := by_any hN h OK6.out HF.out a LT.out; rwa [RM.out] at this)
        obtain ⟨t6, ht6⟩ : ∃ x, x = (t.does a).1 := ⟨_, rfl⟩
        obtain ⟨td, htd⟩ : ∃ x, x = (t.does a).2 := ⟨_, rfl⟩
        rw [← ht6] at H6 L6 F6 RM6 BY0 T6
        rw [← htd] at OL6 HC6 BY0 X6 TL6 ⊢
        clear ht6 htd OK6 LT HL HF HT
        obtain ⟨ti, tn, tl, xs, xe, xb, xr, xc⟩ := td
        unfold toldF at BY0 ⊢
        simp only at OL6 HC6 BY0 X6 TL6 ⊢
        obtain ⟨Av, nv, cv, rfl⟩ := HR6.out.shape
        have K12 := Lib.hid (H6.out.nblk #[.bool ti, .int .i64 (tn : Int), .slice Al tl.length cl, .int .i64 xs, .int .i64 xe, .int .i64 xb, .string xr, .slice Ac nc cc] 65)
        have H7 := Lib.hid (H6.out.alloc (.cells #[.bool ti, .int .i64 (tn : Int), .slice Al tl.length cl, .int .i64 xs, .int .i64 xe, .int .i64 xb, .string xr, .slice Ac nc cc] 65))
        have HB7 := ((Below.refl w6.heap.size w6).alloc (Nat.le_refl _) (.cells #[.bool ti, .int .i64 (tn : Int), .slice Al tl.length cl, .int .i64 xs, .int .i64 xe, .int .i64 xb, .string xr, .slice Ac nc cc] 65))
        have HR7 := Lib.hid (HR6.out.below HB7)
        have HG7 := Lib.hid (HG6.out.call HB7)
        have OL7 := Lib.hid (OL6.out.call HB7)
        have HC7 := Lib.hid (HC6.out.below HB7)
        clear HB7 H6 HR6 HG6 OL6 HC6
        go_upto_region 13 with (fail)
        generalize w6.alloc (.cells #[.bool ti, .int .i64 (tn : Int), .slice Al tl.length cl, .int .i64 xs, .int .i64 xe, .int .i64 xb, .string xr, .slice Ac nc cc] 65) = w7 at *
        generalize w6.heap.size = n12 at *
        obtain ⟨b', o', hbo, hbl, HC⟩ := (HS.out.below H7.out.below).at_ k a HA.out
        cases hbo
        obtain ⟨d0, d1, d2, d3⟩ := HC
        obtain ⟨g0, g1, -, -⟩ := blk2 HG7.out.1
        have BY : Hid (∀ (N : Nat → Prop) W, Below w7.heap.size w7 W → (∀ b, b < w7.heap.size → NR m B rs6 G b → N b) → (∀ k, W.heap.size ≤ k → N k) → Calls Try.prog 30 #[.agg #[.int .i64 (room : Int), .slice Av nv cv], .agg #[.int .i64 a.k, .int .i64 a.s, .int .i64 a.b, .string a.r]] W fun e w' => ∃ v' vl vc, e = .returned (.tuple #[.agg #[.int .i64 (room : Int), v'], .agg #[.bool ti, .int .i64 (tn : Int), vl, .int .i64 xs, .int .i64 xe, .int .i64 xb, .string xr, vc]]) ∧ Rf N w' v' t6 ∧ Below W.heap.size W w' ∧ w'.ownsRow W.heap.size 3 1 vl tl.length (tl.map (Value.int .i64)) ∧ Chs w' vc xc) := Lib.hid (fun N W hW h1 h2 => BY0.out N W _ h2 (HR7.out.keep hW.size (fun b hb hn => ⟨h1 b hb hn, hW.block b hb⟩) (fun g c hg => hW.block g hg.lt)))
        have HNR : Hid (∀ k, w7.heap.size ≤ k → NR m B rs6 G k) := Lib.hid (NR.new H7.out HG7.out.1.lt)
        have ST : Hid (∀ W, Below w7.heap.size w7 W → W.cell? ⟨G, 0, none⟩ = some (.int .i64 (room : Int)) ∧ W.cell? ⟨G, 1, none⟩ = some (.slice Av nv cv) ∧ W.cell? ⟨b, o + k * 4, none⟩ = some (.int .i64 a.k) ∧ W.cell? ⟨b, o + k * 4 + 1, none⟩ = some (.int .i64 a.s) ∧ W.cell? ⟨b, o + k * 4 + 2, none⟩ = some (.int .i64 a.b) ∧ W.cell? ⟨b, o + k * 4 + 3, none⟩ = some (.string a.r)) := Lib.hid (fun W hW => ⟨(hW.cell (p := ⟨G, _, none⟩) HG7.out.1.lt).trans g0, (hW.cell (p := ⟨G, _, none⟩) HG7.out.1.lt).trans g1, (hW.cell (p := ⟨b, _, none⟩) hbl).trans d0, (hW.cell (p := ⟨b, _, none⟩) hbl).trans d1, (hW.cell (p := ⟨b, _, none⟩) hbl).trans d2, (hW.cell (p := ⟨b, _, none⟩) hbl).trans d3⟩)
        clear hbl BY0
        go_cut [13, 14] from 37 to 115 (fun v13 v14 wx => ∃ nF nT A8 n8 c8 Al8 cl8 Ac8 nc8 cc8, v13 = .pointer (some ⟨nF, 0, none⟩) ∧ v14 = .pointer (some ⟨nT, 0, none⟩) ∧ Hid (Dw w7 (NR m B rs6 G) room t6 tl xc #[.bool ti, .int .i64 (tn : Int), .slice Al8 tl.length cl8, .int .i64 xs, .int .i64 xe, .int .i64 xb, .string xr, .slice Ac8 nc8 cc8] nF nT (.slice A8 n8 c8) (.slice Al8 tl.length cl8) (.slice Ac8 nc8 cc8) wx))
        case first =>
          have E0 : Hid (Below w7.heap.size w7 w7.drew) := Lib.hid ((Bl.start w7).drewN 1).1
          have Z0 : Hid ((w7.drew).heap.size = w7.heap.size) := Lib.hid (by rfl)
          have BY0 := Lib.hid (BY.out (NR m B rs6 G) _ E0.out (fun b _ hn => hn) (HNR.out))
          have E1 : Hid (Below w7.heap.size w7 (w7.alloc (.cells #[.int .i64 0, .slice none 0 0] 58)).drew) := Lib.hid (((Bl.start w7).alloc _).drewN 1).1
          have Z1 : Hid (((w7.alloc (.cells #[.int .i64 0, .slice none 0 0] 58)).drew).heap.size = w7.heap.size + 1) := Lib.hid (by show (World.alloc _ _).heap.size = _; simp)
          have BY1 := Lib.hid (BY.out (fun b => NR m B rs6 G b ∧ b ≠ w7.heap.size) _ E1.out (fun b hb hn => ⟨hn, by omega⟩) (fun k hk => by rw [Z1.out] at hk; exact ⟨HNR.out k (by omega), by omega⟩))
          have E2 : Hid (Below w7.heap.size w7 (w7.alloc (.cells #[.bool false, .int .i64 0, .slice none 0 0, .int .i64 0, .int .i64 0, .int .i64 0, .string ⟨#[]⟩, .slice none 0 0] 65)).drew) := Lib.hid (((Bl.start w7).alloc _).drewN 1).1
          have Z2 : Hid (((w7.alloc (.cells #[.bool false, .int .i64 0, .slice none 0 0, .int .i64 0, .int .i64 0, .int .i64 0, .string ⟨#[]⟩, .slice none 0 0] 65)).drew).heap.size = w7.heap.size + 1) := Lib.hid (by show (World.alloc _ _).heap.size = _; simp)
          have BY2 := Lib.hid (BY.out (fun b => NR m B rs6 G b ∧ b ≠ w7.heap.size) _ E2.out (fun b hb hn => ⟨hn, by omega⟩) (fun k hk => by rw [Z2.out] at hk; exact ⟨HNR.out k (by omega), by omega⟩))
          have E3 : Hid (Below w7.heap.size w7 ((w7.alloc (.cells #[.int .i64 0, .slice none 0 0] 58)).alloc (.cells #[.bool false, .int .i64 0, .slice none 0 0, .int .i64 0, .int .i64 0, .int .i64 0, .string ⟨#[]⟩, .slice none 0 0] 65)).drew) := Lib.hid ((((Bl.start w7).alloc _).alloc _).drewN 1).1
          have Z3 : Hid ((((w7.alloc (.cells #[.int .i64 0, .slice none 0 0] 58)).alloc (.cells #[.bool false, .int .i64 0, .slice none 0 0, .int .i64 0, .int .i64 0, .int .i64 0, .string ⟨#[]⟩, .slice none 0 0] 65)).drew).heap.size = w7.heap.size + 1 + 1) := Lib.hid (by show (World.alloc _ _).heap.size = _; simp)
          have BY3 := Lib.hid (BY.out (fun b => (NR m B rs6 G b ∧ b ≠ w7.heap.size) ∧ b ≠ w7.heap.size + 1) _ E3.out (fun b hb hn => ⟨⟨hn, by omega⟩, by omega⟩) (fun k hk => by rw [Z3.out] at hk; exact ⟨⟨HNR.out k (by omega), by omega⟩, by omega⟩))
          have E4 : Hid (Below w7.heap.size w7 ((w7.alloc (.cells #[.bool false, .int .i64 0, .slice none 0 0, .int .i64 0, .int .i64 0, .int .i64 0, .string ⟨#[]⟩, .slice none 0 0] 65)).alloc (.cells #[.int .i64 0, .slice none 0 0] 58)).drew) := Lib.hid ((((Bl.start w7).alloc _).alloc _).drewN 1).1
          have Z4 : Hid ((((w7.alloc (.cells #[.bool false, .int .i64 0, .slice none 0 0, .int .i64 0, .int .i64 0, .int .i64 0, .string ⟨#[]⟩, .slice none 0 0] 65)).alloc (.cells #[.int .i64 0, .slice none 0 0] 58)).drew).heap.size = w7.heap.size + 1 + 1) := Lib.hid (by show (World.alloc _ _).heap.size = _; simp)
          have BY4 := Lib.hid (BY.out (fun b => (NR m B rs6 G b ∧ b ≠ w7.heap.size) ∧ b ≠ w7.heap.size + 1) _ E4.out (fun b hb hn => ⟨⟨hn, by omega⟩, by omega⟩) (fun k hk => by rw [Z4.out] at hk; exact ⟨⟨HNR.out k (by omega), by omega⟩, by omega⟩))
          have M1 : Hid (Blk (w7.alloc (.cells #[.int .i64 0, .slice none 0 0] 58)).drew w7.heap.size 58 #[.int .i64 0, .slice none 0 0]) := Lib.hid (Blk.new w7 _ _)
          have M2 : Hid (Blk (w7.alloc (.cells #[.bool false, .int .i64 0, .slice none 0 0, .int .i64 0, .int .i64 0, .int .i64 0, .string ⟨#[]⟩, .slice none 0 0] 65)).drew w7.heap.size 65 #[.bool false, .int .i64 0, .slice none 0 0, .int .i64 0, .int .i64 0, .int .i64 0, .string ⟨#[]⟩, .slice none 0 0]) := Lib.hid (Blk.new w7 _ _)
          have M3a : Hid (Blk ((w7.alloc (.cells #[.int .i64 0, .slice none 0 0] 58)).alloc (.cells #[.bool false, .int .i64 0, .slice none 0 0, .int .i64 0, .int .i64 0, .int .i64 0, .string ⟨#[]⟩, .slice none 0 0] 65)).drew w7.heap.size 58 #[.int .i64 0, .slice none 0 0]) := Lib.hid ((Blk.new w7 _ _).alloc _)
          have M3b : Hid (Blk ((w7.alloc (.cells #[.int .i64 0, .slice none 0 0] 58)).alloc (.cells #[.bool false, .int .i64 0, .slice none 0 0, .int .i64 0, .int .i64 0, .int .i64 0, .string ⟨#[]⟩, .slice none 0 0] 65)).drew (w7.heap.size + 1) 65 #[.bool false, .int .i64 0, .slice none 0 0, .int .i64 0, .int .i64 0, .int .i64 0, .string ⟨#[]⟩, .slice none 0 0]) := Lib.hid (by have := Blk.new (w7.alloc (.cells #[.int .i64 0, .slice none 0 0] 58)) 65 #[.bool false, .int .i64 0, .slice none 0 0, .int .i64 0, .int .i64 0, .int .i64 0, .string ⟨#[]⟩, .slice none 0 0]; rw [World.size_alloc] at this; exact this)
          have M4a : Hid (Blk ((w7.alloc (.cells #[.bool false, .int .i64 0, .slice none 0 0, .int .i64 0, .int .i64 0, .int .i64 0, .string ⟨#[]⟩, .slice none 0 0] 65)).alloc (.cells #[.int .i64 0, .slice none 0 0] 58)).drew w7.heap.size 65 #[.bool false, .int .i64 0, .slice none 0 0, .int .i64 0, .int .i64 0, .int .i64 0, .string ⟨#[]⟩, .slice none 0 0]) := Lib.hid ((Blk.new w7 _ _).alloc _)
          have M4b : Hid (Blk ((w7.alloc (.cells #[.bool false, .int .i64 0, .slice none 0 0, .int .i64 0, .int .i64 0, .int .i64 0, .string ⟨#[]⟩, .slice none 0 0] 65)).alloc (.cells #[.int .i64 0, .slice none 0 0] 58)).drew (w7.heap.size + 1) 58 #[.int .i64 0, .slice none 0 0]) := Lib.hid (by have := Blk.new (w7.alloc (.cells #[.bool false, .int .i64 0, .slice none 0 0, .int .i64 0, .int .i64 0, .int .i64 0, .string ⟨#[]⟩, .slice none 0 0] 65)) 58 #[.int .i64 0, .slice none 0 0]; rw [World.size_alloc] at this; exact this)
          go_region_held3 (fun W => W.cell? ⟨G, 0, none⟩ = some (.int .i64 (room : Int)) ∧ W.cell? ⟨G, 1, none⟩ = some (.slice Av nv cv) ∧ W.cell? ⟨b, o + k * 4, none⟩ = some (.int .i64 a.k) ∧ W.cell? ⟨b, o + k * 4 + 1, none⟩ = some (.int .i64 a.s) ∧ W.cell? ⟨b, o + k * 4 + 2, none⟩ = some (.int .i64 a.b) ∧ W.cell? ⟨b, o + k * 4 + 3, none⟩ = some (.string a.r))
            (first | (with_reducible exact ST.out _ E0.out) | (with_reducible exact ST.out _ E1.out) | (with_reducible exact ST.out _ E2.out) | (with_reducible exact ST.out _ E3.out) | (with_reducible exact ST.out _ E4.out) | (refine ST.out _ (show Bl w7.heap.size w7 _ from ?_).1; repeat' (first | (with_reducible exact BL8.out) | (with_reducible refine Bl.alloc ?_ _) | (with_reducible refine Bl.setCell ?_ ?_ _) | exact Nat.le_refl _ | exact Nat.le_succ _ | exact sz8)))
            (first
              | (go_at_call 30; (with_reducible refine BY0.out.mono ?_); rintro e w8 ⟨v8, vl8, vc8, rfl, hR8, hb8, hr8, hc8⟩; obtain ⟨A8, n8, c8, hv8⟩ := hR8.shape; subst hv8; obtain ⟨Al8, cl8, hvl8⟩ := own_shape hr8; subst hvl8; obtain ⟨Ac8, nc8, cc8, hvc8⟩ := hc8.slice; subst hvc8; have HR8 := Lib.hid hR8; have OL8 := Lib.hid (Z0.out ▸ hr8); have HC8 := Lib.hid hc8; have B8 := Lib.hid (E0.out.trans (hb8.mono E0.out.size)); have sz8 : w7.heap.size ≤ w8.heap.size := B8.out.size; have BL8 : Hid (Bl w7.heap.size w7 w8) := Lib.hid ⟨B8.out, sz8⟩; clear hR8 hb8 hr8 hc8)
              | (go_at_call 30; (with_reducible refine BY1.out.mono ?_); rintro e w8 ⟨v8, vl8, vc8, rfl, hR8, hb8, hr8, hc8⟩; obtain ⟨A8, n8, c8, hv8⟩ := hR8.shape; subst hv8; obtain ⟨Al8, cl8, hvl8⟩ := own_shape hr8; subst hvl8; obtain ⟨Ac8, nc8, cc8, hvc8⟩ := hc8.slice; subst hvc8; have HR8 := Lib.hid hR8; have OL8 := Lib.hid (Z1.out ▸ hr8); have HC8 := Lib.hid hc8; have B8 := Lib.hid (E1.out.trans (hb8.mono E1.out.size)); have sz8 : w7.heap.size ≤ w8.heap.size := B8.out.size; have BL8 : Hid (Bl w7.heap.size w7 w8) := Lib.hid ⟨B8.out, sz8⟩; have KF8 := Lib.hid (M1.out.below hb8); have lt1 : w7.heap.size < w8.heap.size := KF8.out.lt; obtain ⟨kf0, kf1, kff0, kff1⟩ := blk2 KF8.out; clear hR8 hb8 hr8 hc8)
              | (go_at_call 30; (with_reducible refine BY2.out.mono ?_); rintro e w8 ⟨v8, vl8, vc8, rfl, hR8, hb8, hr8, hc8⟩; obtain ⟨A8, n8, c8, hv8⟩ := hR8.shape; subst hv8; obtain ⟨Al8, cl8, hvl8⟩ := own_shape hr8; subst hvl8; obtain ⟨Ac8, nc8, cc8, hvc8⟩ := hc8.slice; subst hvc8; have HR8 := Lib.hid hR8; have OL8 := Lib.hid (Z2.out ▸ hr8); have HC8 := Lib.hid hc8; have B8 := Lib.hid (E2.out.trans (hb8.mono E2.out.size)); have sz8 : w7.heap.size ≤ w8.heap.size := B8.out.size; have BL8 : Hid (Bl w7.heap.size w7 w8) := Lib.hid ⟨B8.out, sz8⟩; have KT8 := Lib.hid (M2.out.below hb8); have lt1 : w7.heap.size < w8.heap.size := KT8.out.lt; obtain ⟨⟨kt0, kt1, kt2, kt3, kt4, kt5, kt6, kt7⟩, ktf0, ktf1, ktf2, ktf3, ktf4, ktf5, ktf6, ktf7⟩ := blk8 KT8.out; clear hR8 hb8 hr8 hc8)
              | (go_at_call 30; (with_reducible refine BY3.out.mono ?_); rintro e w8 ⟨v8, vl8, vc8, rfl, hR8, hb8, hr8, hc8⟩; obtain ⟨A8, n8, c8, hv8⟩ := hR8.shape; subst hv8; obtain ⟨Al8, cl8, hvl8⟩ := own_shape hr8; subst hvl8; obtain ⟨Ac8, nc8, cc8, hvc8⟩ := hc8.slice; subst hvc8; have HR8 := Lib.hid hR8; have OL8 := Lib.hid (Z3.out ▸ hr8); have HC8 := Lib.hid hc8; have B8 := Lib.hid (E3.out.trans (hb8.mono E3.out.size)); have sz8 : w7.heap.size ≤ w8.heap.size := B8.out.size; have BL8 : Hid (Bl w7.heap.size w7 w8) := Lib.hid ⟨B8.out, sz8⟩; have KF8 := Lib.hid (M3a.out.below hb8); obtain ⟨kf0, kf1, kff0, kff1⟩ := blk2 KF8.out; have KT8 := Lib.hid (M3b.out.below hb8); obtain ⟨⟨kt0, kt1, kt2, kt3, kt4, kt5, kt6, kt7⟩, ktf0, ktf1, ktf2, ktf3, ktf4, ktf5, ktf6, ktf7⟩ := blk8 KT8.out; clear hR8 hb8 hr8 hc8)
              | (go_at_call 30; (with_reducible refine BY4.out.mono ?_); rintro e w8 ⟨v8, vl8, vc8, rfl, hR8, hb8, hr8, hc8⟩; obtain ⟨A8, n8, c8, hv8⟩ := hR8.shape; subst hv8; obtain ⟨Al8, cl8, hvl8⟩ := own_shape hr8; subst hvl8; obtain ⟨Ac8, nc8, cc8, hvc8⟩ := hc8.slice; subst hvc8; have HR8 := Lib.hid hR8; have OL8 := Lib.hid (Z4.out ▸ hr8); have HC8 := Lib.hid hc8; have B8 := Lib.hid (E4.out.trans (hb8.mono E4.out.size)); have sz8 : w7.heap.size ≤ w8.heap.size := B8.out.size; have BL8 : Hid (Bl w7.heap.size w7 w8) := Lib.hid ⟨B8.out, sz8⟩; have KT8 := Lib.hid (M4a.out.below hb8); obtain ⟨⟨kt0, kt1, kt2, kt3, kt4, kt5, kt6, kt7⟩, ktf0, ktf1, ktf2, ktf3, ktf4, ktf5, ktf6, ktf7⟩ := blk8 KT8.out; have KF8 := Lib.hid (M4b.out.below hb8); obtain ⟨kf0, kf1, kff0, kff1⟩ := blk2 KF8.out; clear hR8 hb8 hr8 hc8))
          · go_wp2_with fail
            go_meet
            have k2 := (((Bl.start w8).alloc (.cells #[.int .i64 (room : Int), .slice A8 n8 c8] 58)).alloc (.cells #[.bool ti, .int .i64 (tn : Int), .slice Al8 tl.length cl8, .int .i64 xs, .int .i64 xe, .int .i64 xb, .string xr, .slice Ac8 nc8 cc8] 65)).1
            have q1 := (Blk.new w8 58 #[.int .i64 (room : Int), .slice A8 n8 c8]).alloc (.cells #[.bool ti, .int .i64 (tn : Int), .slice Al8 tl.length cl8, .int .i64 xs, .int .i64 xe, .int .i64 xb, .string xr, .slice Ac8 nc8 cc8] 65)
            have q2 : Blk ((w8.alloc (.cells #[.int .i64 (room : Int), .slice A8 n8 c8] 58)).alloc (.cells #[.bool ti, .int .i64 (tn : Int), .slice Al8 tl.length cl8, .int .i64 xs, .int .i64 xe, .int .i64 xb, .string xr, .slice Ac8 nc8 cc8] 65)) (w8.heap.size + 1) 65 #[.bool ti, .int .i64 (tn : Int), .slice Al8 tl.length cl8, .int .i64 xs, .int .i64 xe, .int .i64 xb, .string xr, .slice Ac8 nc8 cc8] := by have := Blk.new (w8.alloc (.cells #[.int .i64 (room : Int), .slice A8 n8 c8] 58)) 65 #[.bool ti, .int .i64 (tn : Int), .slice Al8 tl.length cl8, .int .i64 xs, .int .i64 xe, .int .i64 xb, .string xr, .slice Ac8 nc8 cc8]; rw [World.size_alloc] at this; exact this
            exact ⟨w8.heap.size, w8.heap.size + 1, A8, n8, c8, Al8, cl8, Ac8, nc8, cc8, rfl, rfl, Lib.hid ⟨(BL8.out.alloc _).alloc _, q1, q2, HR8.out.below k2, own_far OL8.out (far_of_belowF k2) (fun _ _ e => e), HC8.out.below k2, by omega, by omega⟩⟩
          · go_wp2_with fail
            go_meet
            have k2 := (((Bl.start w8).alloc (.cells #[.bool ti, .int .i64 (tn : Int), .slice Al8 tl.length cl8, .int .i64 xs, .int .i64 xe, .int .i64 xb, .string xr, .slice Ac8 nc8 cc8] 65)).alloc (.cells #[.int .i64 (room : Int), .slice A8 n8 c8] 58)).1
            have q1 := (Blk.new w8 65 #[.bool ti, .int .i64 (tn : Int), .slice Al8 tl.length cl8, .int .i64 xs, .int .i64 xe, .int .i64 xb, .string xr, .slice Ac8 nc8 cc8]).alloc (.cells #[.int .i64 (room : Int), .slice A8 n8 c8] 58)
            have q2 : Blk ((w8.alloc (.cells #[.bool ti, .int .i64 (tn : Int), .slice Al8 tl.length cl8, .int .i64 xs, .int .i64 xe, .int .i64 xb, .string xr, .slice Ac8 nc8 cc8] 65)).alloc (.cells #[.int .i64 (room : Int), .slice A8 n8 c8] 58)) (w8.heap.size + 1) 58 #[.int .i64 (room : Int), .slice A8 n8 c8] := by have := Blk.new (w8.alloc (.cells #[.bool ti, .int .i64 (tn : Int), .slice Al8 tl.length cl8, .int .i64 xs, .int .i64 xe, .int .i64 xb, .string xr, .slice Ac8 nc8 cc8] 65)) 58 #[.int .i64 (room : Int), .slice A8 n8 c8]; rw [World.size_alloc] at this; exact this
            exact ⟨w8.heap.size + 1, w8.heap.size, A8, n8, c8, Al8, cl8, Ac8, nc8, cc8, rfl, rfl, Lib.hid ⟨(BL8.out.alloc _).alloc _, q2, q1, HR8.out.below k2, own_far OL8.out (far_of_belowF k2) (fun _ _ e => e), HC8.out.below k2, by omega, by omega⟩⟩
          · go_wp2_with fail
            go_meet
            obtain ⟨u1, u2, u3⟩ := set2 KF8.out BL8.out (Nat.le_refl _) (.int .i64 (room : Int)) (.slice A8 n8 c8)
            have R1 := HR8.out.set KF8.out (by decide) u3
            have C1 := HC8.out.set KF8.out (by decide) u3
            have O1 := row_monoF (own_far OL8.out u3 (fun b hb e => by have := (OL8.out.lt b hb).1; omega)) (Nat.le_succ w7.heap.size)
            have s1 : ((w8.setCell ⟨w7.heap.size, 0, none⟩ (.int .i64 (room : Int))).setCell ⟨w7.heap.size, 1, none⟩ (.slice A8 n8 c8)).heap.size = w8.heap.size := by simp [World.setCell]
            have k2 := (((Bl.start ((w8.setCell ⟨w7.heap.size, 0, none⟩ (.int .i64 (room : Int))).setCell ⟨w7.heap.size, 1, none⟩ (.slice A8 n8 c8))).alloc (.cells #[.bool ti, .int .i64 (tn : Int), .slice Al8 tl.length cl8, .int .i64 xs, .int .i64 xe, .int .i64 xb, .string xr, .slice Ac8 nc8 cc8] 65))).1
            have q1 := u1.alloc (.cells #[.bool ti, .int .i64 (tn : Int), .slice Al8 tl.length cl8, .int .i64 xs, .int .i64 xe, .int .i64 xb, .string xr, .slice Ac8 nc8 cc8] 65)
            have q2 := Blk.new ((w8.setCell ⟨w7.heap.size, 0, none⟩ (.int .i64 (room : Int))).setCell ⟨w7.heap.size, 1, none⟩ (.slice A8 n8 c8)) 65 #[.bool ti, .int .i64 (tn : Int), .slice Al8 tl.length cl8, .int .i64 xs, .int .i64 xe, .int .i64 xb, .string xr, .slice Ac8 nc8 cc8]
            rw [s1] at q2
            exact ⟨w7.heap.size, w8.heap.size, A8, n8, c8, Al8, cl8, Ac8, nc8, cc8, rfl, rfl, Lib.hid ⟨u2.alloc _, q1, q2, R1.below k2, own_far O1 (far_of_belowF k2) (fun _ _ e => e), C1.below k2, by omega, by omega⟩⟩
          · go_wp2_with fail
            go_meet
            obtain ⟨u1, u2, u3⟩ := set2 KF8.out BL8.out (by omega : w7.heap.size ≤ w7.heap.size) (.int .i64 (room : Int)) (.slice A8 n8 c8)
            have KT9 := KT8.out.far u3 (by omega : ¬ w7.heap.size + 1 = w7.heap.size)
            obtain ⟨y1, y2, y3⟩ := set8 KT9 u2 (by omega : w7.heap.size ≤ w7.heap.size + 1) (.bool ti) (.int .i64 (tn : Int)) (.slice Al8 tl.length cl8) (.int .i64 xs) (.int .i64 xe) (.int .i64 xb) (.string xr) (.slice Ac8 nc8 cc8)
            have R1 := ((HR8.out.keep (N' := fun b => (NR m B rs6 G b ∧ b ≠ w7.heap.size + 1) ∧ b ≠ w7.heap.size) (Nat.le_refl _) (fun b _ hn => ⟨⟨⟨hn.1.1, hn.2⟩, hn.1.2⟩, rfl⟩) (fun _ _ _ => rfl)).set KF8.out (by decide) u3).set KT9 (by decide) y3
            have C1 := (HC8.out.set KF8.out (by decide) u3).set KT9 (by decide) y3
            have O1 := row_monoF (own_far (own_far OL8.out u3 (fun b hb e => by have := (OL8.out.lt b hb).1; omega)) y3 (fun b hb e => by have := (OL8.out.lt b hb).1; omega)) (by omega : w7.heap.size ≤ w7.heap.size + 1 + 1)
            have q1 := u1.far y3 (by omega : ¬ w7.heap.size = w7.heap.size + 1)
            unfold sets8 at y1 y2 R1 C1 O1 q1
            exact ⟨w7.heap.size, w7.heap.size + 1, A8, n8, c8, Al8, cl8, Ac8, nc8, cc8, rfl, rfl, Lib.hid ⟨y2, q1, y1, R1, O1, C1, by omega, by omega⟩⟩
          · go_wp2_with fail
            go_meet
            obtain ⟨u1, u2, u3⟩ := set8 KT8.out BL8.out (Nat.le_refl _) (.bool ti) (.int .i64 (tn : Int)) (.slice Al8 tl.length cl8) (.int .i64 xs) (.int .i64 xe) (.int .i64 xb) (.string xr) (.slice Ac8 nc8 cc8)
            have R1 := HR8.out.set KT8.out (by decide) u3
            have C1 := HC8.out.set KT8.out (by decide) u3
            have O1 := row_monoF (own_far OL8.out u3 (fun b hb e => by have := (OL8.out.lt b hb).1; omega)) (Nat.le_succ w7.heap.size)
            have s1 : (sets8 w8 w7.heap.size (.bool ti) (.int .i64 (tn : Int)) (.slice Al8 tl.length cl8) (.int .i64 xs) (.int .i64 xe) (.int .i64 xb) (.string xr) (.slice Ac8 nc8 cc8)).heap.size = w8.heap.size := by simp [sets8, World.setCell]
            unfold sets8 at u1 u2 R1 C1 O1 s1
            have k2 := (((Bl.start (((((((((w8.setCell ⟨w7.heap.size, 0, none⟩ (.bool ti)).setCell ⟨w7.heap.size, 1, none⟩ (.int .i64 (tn : Int))).setCell ⟨w7.heap.size, 2, none⟩ (.slice Al8 tl.length cl8)).setCell ⟨w7.heap.size, 3, none⟩ (.int .i64 xs)).setCell ⟨w7.heap.size, 4, none⟩ (.int .i64 xe)).setCell ⟨w7.heap.size, 5, none⟩ (.int .i64 xb)).setCell ⟨w7.heap.size, 6, none⟩ (.string xr)).setCell ⟨w7.heap.size, 7, none⟩ (.slice Ac8 nc8 cc8)))).alloc (.cells #[.int .i64 (room : Int), .slice A8 n8 c8] 58))).1
            have q1 := u1.alloc (.cells #[.int .i64 (room : Int), .slice A8 n8 c8] 58)
            have q2 := Blk.new (((((((((w8.setCell ⟨w7.heap.size, 0, none⟩ (.bool ti)).setCell ⟨w7.heap.size, 1, none⟩ (.int .i64 (tn : Int))).setCell ⟨w7.heap.size, 2, none⟩ (.slice Al8 tl.length cl8)).setCell ⟨w7.heap.size, 3, none⟩ (.int .i64 xs)).setCell ⟨w7.heap.size, 4, none⟩ (.int .i64 xe)).setCell ⟨w7.heap.size, 5, none⟩ (.int .i64 xb)).setCell ⟨w7.heap.size, 6, none⟩ (.string xr)).setCell ⟨w7.heap.size, 7, none⟩ (.slice Ac8 nc8 cc8))) 58 #[.int .i64 (room : Int), .slice A8 n8 c8]
            rw [s1] at q2
            exact ⟨w8.heap.size, w7.heap.size, A8, n8, c8, Al8, cl8, Ac8, nc8, cc8, rfl, rfl, Lib.hid ⟨u2.alloc _, q2, q1, R1.below k2, own_far O1 (far_of_belowF k2) (fun _ _ e => e), C1.below k2, by omega, by omega⟩⟩
          · go_wp2_with fail
            go_meet
            obtain ⟨u1, u2, u3⟩ := set2 KF8.out BL8.out (by omega : w7.heap.size ≤ w7.heap.size + 1) (.int .i64 (room : Int)) (.slice A8 n8 c8)
            have KT9 := KT8.out.far u3 (by omega : ¬ w7.heap.size = w7.heap.size + 1)
            obtain ⟨y1, y2, y3⟩ := set8 KT9 u2 (by omega : w7.heap.size ≤ w7.heap.size) (.bool ti) (.int .i64 (tn : Int)) (.slice Al8 tl.length cl8) (.int .i64 xs) (.int .i64 xe) (.int .i64 xb) (.string xr) (.slice Ac8 nc8 cc8)
            have R1 := (HR8.out.set KF8.out (by decide) u3).set KT9 (by decide) y3
            have C1 := (HC8.out.set KF8.out (by decide) u3).set KT9 (by decide) y3
            have O1 := row_monoF (own_far (own_far OL8.out u3 (fun b hb e => by have := (OL8.out.lt b hb).1; omega)) y3 (fun b hb e => by have := (OL8.out.lt b hb).1; omega)) (by omega : w7.heap.size ≤ w7.heap.size + 1 + 1)
            have q1 := u1.far y3 (by omega : ¬ w7.heap.size + 1 = w7.heap.size)
            unfold sets8 at y1 y2 R1 C1 O1 q1
            exact ⟨w7.heap.size + 1, w7.heap.size, A8, n8, c8, Al8, cl8, Ac8, nc8, cc8, rfl, rfl, Lib.hid ⟨y2, q1, y1, R1, O1, C1, by omega, by omega⟩⟩
        case rest =>
          obtain ⟨nF, nT, A8, n8, c8, Al8, cl8, Ac8, nc8, cc8, e13, e14, DW⟩ := hcut
          subst e13 e14
          have GA := Lib.hid (HG7.out.call (DW.out.b.1))
          have HA9 := H7.out.call DW.out.b.1
          have WB : Hid (Bl w.heap.size w wc) := Lib.hid ⟨HA9.below, HA9.below.size⟩
          have KL := Lib.hid (K12.out.1.below (by have := DW.out.b.1; exact this))
          obtain ⟨f0, f1, -, -⟩ := blk2 DW.out.f
          obtain ⟨g0, g1, gf0, gf1⟩ := blk2 GA.out.1
          clear HA9
          go_upto_region 15 with (fail)
          obtain ⟨u1, u2, u3⟩ := set2 GA.out.1 WB.out GB.out (.int .i64 (room : Int)) (.slice A8 n8 c8)
          have HX : ∀ q T c, Blk wc q T c → T ≠ 58 → q ≠ G := fun q T c hq hT e => hT (blk_type (e ▸ hq) GA.out.1)
          have H9 := Lib.hid ((H7.out.call DW.out.b.1).far u3 (fun q hq e => GA.out.2 (e ▸ hq)) (fun q c hq e => HX q _ c hq (by decide) e) u2.1)
          have G9 : Hid (FBlk m B rs6 G 58 #[.int .i64 (room : Int), .slice A8 n8 c8] _) := Lib.hid ⟨u1, GA.out.2⟩
          have R9 := Lib.hid (DW.out.r.keep u3.size (fun b hb hn => ⟨hn, u3.block b hb hn.2⟩) (fun q c hq => u3.block q hq.lt (HX q _ c hq (by decide))))
          have K9 := Lib.hid (KL.out.far u3 (HX _ _ _ KL.out (by decide)))
          have T9 := Lib.hid (DW.out.k.far u3 (HX _ _ _ DW.out.k (by decide)))
          have OA9 := Lib.hid (own_far (OL7.out.call DW.out.b.1).1 u3 (fun b hb e => by
            obtain ⟨cur, hq⟩ := own_type (OL7.out.call DW.out.b.1).1 hb
            exact HX b _ cur hq (by decide) e))
          have OB9 := Lib.hid (own_far DW.out.o u3 (fun b hb e => by
            obtain ⟨cur, hq⟩ := own_type DW.out.o hb
            exact HX b _ cur hq (by decide) e))
          have CA9 := Lib.hid ((HC7.out.below DW.out.b.1).set GA.out.1 (by decide) u3)
          have CB9 := Lib.hid (DW.out.c.set GA.out.1 (by decide) u3)
          clear f0 f1 g0 g1 gf0 gf1 u1 u2 u3 HX GA WB KL DW H7 HR7 HG7 OL7 HC7 K12 d0 d1 d2 d3 BY HNR ST
          generalize (wc.setCell ⟨G, 0, none⟩ (.int .i64 (room : Int))).setCell ⟨G, 1, none⟩ (.slice A8 n8 c8) = w9 at *
          obtain ⟨⟨p0, p1, p2, p3, p4, p5, p6, p7⟩, -⟩ := blk8 K9.out
          obtain ⟨⟨q0, q1, q2, q3, q4, q5, q6, q7⟩, -⟩ := blk8 T9.out
          have SN := Lib.hid (sameNotice_eq w9 ⟨xs, xe, xb, xr, xc⟩ Ac Ac8 nc nc8 cc cc8 (by have := X6.out; show xc.length ≤ _; omega) CA9.out CB9.out)
          simp only at SN
          go_wp2_with fail
          refine SN.out.mono ?_
          rintro e w10 ⟨rfl, hb10⟩
          have Y10 := Lib.hid ((Bl.start w9).call hb10)
          clear hb10 p0 p1 p2 p3 p4 p5 p6 p7 q0 q1 q2 q3 q4 q5 q6 q7 SN
          have RT := Lib.hid (rfat_any (R9.out.below Y10.out.1) (room : Int) a2 (by have := L6.out; omega))
          obtain ⟨g0, g1, -, -⟩ := blk2 (G9.out.call Y10.out.1).1
          go_wp2_with fail
          refine RT.out.mono ?_
          rintro e w11 ⟨x, rfl, hx, lx, hb11⟩
          obtain ⟨xf, xq, xv⟩ := x
          obtain ⟨Bx, cx, hxv⟩ := lx.shape
          simp only at hxv
          subst hxv
          have FX : Hid (t6.fol a2 = xf) := Lib.hid (by unfold Tbl.fol; rw [← hx]; rfl)
          have WX : Hid (t6.wait a2 = xq.length) := Lib.hid (by unfold Tbl.wait; rw [← hx]; show (xq.map Prod.fst).length = _; rw [List.length_map])
          have K16 := Lib.hid (Blk.new w11 74 #[.int .i64 a2, .bool xf, .slice Bx xq.length cx])
          have Y12 := Lib.hid ((Y10.out.call hb11).alloc (.cells #[.int .i64 a2, .bool xf, .slice Bx xq.length cx] 74))
          clear hx lx hb11 g0 g1 RT Y10
          go_upto_region 17 with (fail)
          generalize w11.alloc (.cells #[.int .i64 a2, .bool xf, .slice Bx xq.length cx] 74) = w12 at *
          generalize w11.heap.size = n16 at *
          have HZ12 := Lib.hid (H9.out.call Y12.out.1)
          have RZ12 := Lib.hid (R9.out.below Y12.out.1)
          have GZ12 := Lib.hid (G9.out.call Y12.out.1)
          have KZ12 := Lib.hid (K9.out.below Y12.out.1)
          have TZ12 := Lib.hid (T9.out.below Y12.out.1)
          have SA12 := Lib.hid ((Sh.ints OA9.out).2.below Y12.out.1)
          have SB12 := Lib.hid ((Sh.ints OB9.out).2.below Y12.out.1)
          have TLL : Hid (tl.length ≤ 100000) := Lib.hid (by have := TL6.out; omega)
          have KLL : Hid (t6.keys.length ≤ 100000) := Lib.hid (by unfold Tbl.keys; rw [List.length_map]; have := L6.out; omega)
          have TR6 : Hid (t6.rows.length ≤ 1000) := Lib.hid (by have := L6.out; omega)
          have HD : Hid (Below w12.heap.size w12 w12.drew) := Lib.hid ((Bl.start w12).drewN 1).1
          clear H9 R9 G9 K9 T9 OA9 OB9 CA9 CB9 Y12
          have CA0 : Hid (∀ W, Below w12.heap.size w12 W → W.cell? ⟨n12, 0, none⟩ = some (.bool ti)) := Lib.hid (fun W hW => by rw [(KZ12.out.below hW).cell]; rfl)
          have CB0 : Hid (∀ W, Below w12.heap.size w12 W → W.cell? ⟨nT, 0, none⟩ = some (.bool ti)) := Lib.hid (fun W hW => by rw [(TZ12.out.below hW).cell]; rfl)
          have CA1 : Hid (∀ W, Below w12.heap.size w12 W → W.cell? ⟨n12, 1, none⟩ = some (.int .i64 (tn : Int))) := Lib.hid (fun W hW => by rw [(KZ12.out.below hW).cell]; rfl)
          have CB1 : Hid (∀ W, Below w12.heap.size w12 W → W.cell? ⟨nT, 1, none⟩ = some (.int .i64 (tn : Int))) := Lib.hid (fun W hW => by rw [(TZ12.out.below hW).cell]; rfl)
          have CA2 : Hid (∀ W, Below w12.heap.size w12 W → W.cell? ⟨n12, 2, none⟩ = some (.slice Al tl.length cl)) := Lib.hid (fun W hW => by rw [(KZ12.out.below hW).cell]; rfl)
          have CB2 : Hid (∀ W, Below w12.heap.size w12 W → W.cell? ⟨nT, 2, none⟩ = some (.slice Al8 tl.length cl8)) := Lib.hid (fun W hW => by rw [(TZ12.out.below hW).cell]; rfl)
          have CX1 : Hid (∀ W, Below w12.heap.size w12 W → W.cell? ⟨n16, 1, none⟩ = some (.bool xf)) := Lib.hid (fun W hW => by rw [(K16.out.below hW).cell]; rfl)
          have CX2 : Hid (∀ W, Below w12.heap.size w12 W → W.cell? ⟨n16, 2, none⟩ = some (.slice Bx xq.length cx)) := Lib.hid (fun W hW => by rw [(K16.out.below hW).cell]; rfl)
          have GF : Hid (∀ W, Below w12.heap.size w12 W → Blk W G 58 #[.int .i64 (room : Int), .slice A8 n8 c8]) := Lib.hid (fun W hW => GZ12.out.1.below hW)
          have SI1 : Hid (∀ W, Below w12.heap.size w12 W → Calls Try.prog 33 #[.slice Al tl.length cl, .slice Al8 tl.length cl8] W fun e w' => e = .returned (.bool true) ∧ Segs.Hist W w') := Lib.hid (fun W hW => sameInts_eq W Al Al8 cl cl8 tl TLL.out (SA12.out.below hW) (SB12.out.below hW))
          have FS : Hid (∀ W, Below w12.heap.size w12 W → Calls Try.prog 34 #[.pointer (some ⟨m, 0, none⟩)] W fun e w' => ∃ A c, e = .returned (.slice A t6.keys.length c) ∧ Segs.Hist W w' ∧ Sh Tt w' A (t6.keys.map (Value.int .i64))) := Lib.hid (fun W hW => (fl_sessions (HZ12.out.call hW) TR6.out).mono (fun e w' h => by obtain ⟨A, c, h1, h2, h3, h4⟩ := h; exact ⟨A, c, h1, h4, (Sh.ints h3.1).2⟩))
          have RS : Hid (∀ W, Below w12.heap.size w12 W → Calls Try.prog 35 #[.agg #[.int .i64 (room : Int), .slice A8 n8 c8]] W fun e w' => ∃ A c, e = .returned (.slice A t6.keys.length c) ∧ Segs.Hist W w' ∧ Sh Tt w' A (t6.keys.map (Value.int .i64))) := Lib.hid (fun W hW => (rfsessions_any (RZ12.out.below hW) (room : Int) TR6.out).mono (fun e w' h => by obtain ⟨v, h1, h2, h3⟩ := h; obtain ⟨A, c, hv⟩ := own_shape h2; subst hv; exact ⟨A, c, h1, h3, (Sh.ints h2).2⟩))
          have FO : Hid (∀ W, Below w12.heap.size w12 W → Calls Try.prog 36 #[.pointer (some ⟨m, 0, none⟩), .int .i64 a2] W fun e w' => e = .returned (.bool xf) ∧ Segs.Hist W w') := Lib.hid (fun W hW => (follows_any (HZ12.out.call hW).fd a2 HW.out).mono (fun e w' h => ⟨FX.out ▸ h.1, h.2 ▸ Segs.Hist.refl _⟩))
          have WA : Hid (∀ W, Below w12.heap.size w12 W → Calls Try.prog 37 #[.pointer (some ⟨m, 0, none⟩), .int .i64 a2] W fun e w' => e = .returned (.int .i64 (xq.length : Int)) ∧ Segs.Hist W w') := Lib.hid (fun W hW => (waiting_any (HZ12.out.call hW).fd a2 HW.out).mono (fun e w' h => ⟨WX.out ▸ h.1, h.2 ▸ Segs.Hist.refl _⟩))
          have NE1 : Hid (decide (¬ (tn : Int) = (tn : Int)) = false) := Lib.hid (by simp)
          have NE2 : Hid (decide (¬ (xq.length : Int) = (xq.length : Int)) = false) := Lib.hid (by simp)
          have HB0 := Lib.hid (Bl.start w12)
          refine Segs.wp_region_perm Segs.Hist [(0, false), (1, false), (2, false), (3, false), (4, false), (5, false), (6, false), (7, false), (8, false), (9, false), (10, false), (11, false), (12, false), (13, false), (14, false), (15, false), (16, false), (17, false), (18, false), (19, false), (20, false), (21, false), (22, false), (23, false), (24, false), (25, false), (27, false), (26, true), (28, true), (29, false), (30, false), (31, false), (32, false), (33, false), (34, false), (35, false), (36, false), (37, false), (38, false), (39, false), (40, false), (41, false), (42, false), (43, false), (44, false), (45, false), (46, false), (47, false), (48, false)] Segs.Hist.refl Segs.Hist.trans (by kernel_rfl) (by kernel_rfl) rfl (by kernel_rfl) (Segs.WP.out ?_)
          have B2 := Lib.hid HB0.out.drew
          generalize w12.drew = W1 at B2 ⊢
          refine Segs.WP.val 0 rfl (some 67) (.pointer (some ⟨n12, 0, none⟩)) rfl (by kernel_rfl) (fun WW h => by kernel_rfl) ?_
          simp only [Act.put, List.setIfInBounds_toArray, List.set_cons_zero, List.set_cons_succ]
          refine Segs.WP.val 1 rfl (some 68) (.bool ti) rfl (by kernel_rfl) (fun WW h => Segs.run_cell 4 (.tmp 67) rfl n12 0 (by kernel_rfl) _ (isAggBool _) (CA0.out WW (B2.out.call h).1)) ?_
          simp only [Act.put, List.setIfInBounds_toArray, List.set_cons_zero, List.set_cons_succ]
          refine Segs.WP.val 2 rfl (some 69) (.pointer (some ⟨nT, 0, none⟩)) rfl (by kernel_rfl) (fun WW h => by kernel_rfl) ?_
          simp only [Act.put, List.setIfInBounds_toArray, List.set_cons_zero, List.set_cons_succ]
          refine Segs.WP.val 3 rfl (some 70) (.bool ti) rfl (by kernel_rfl) (fun WW h => Segs.run_cell 4 (.tmp 69) rfl nT 0 (by kernel_rfl) _ (isAggBool _) (CB0.out WW (B2.out.call h).1)) ?_
          simp only [Act.put, List.setIfInBounds_toArray, List.set_cons_zero, List.set_cons_succ]
          refine Segs.WP.val 4 rfl (some 71) (.bool false) rfl (by kernel_rfl) (fun WW h => run_neb rfl ti (by kernel_rfl) (by kernel_rfl)) ?_
          simp only [Act.put, List.setIfInBounds_toArray, List.set_cons_zero, List.set_cons_succ]
          refine Segs.WP.val 5 rfl (some 72) (.bool false) rfl (by kernel_rfl) (fun WW h => by kernel_rfl) ?_
          simp only [Act.put, List.setIfInBounds_toArray, List.set_cons_zero, List.set_cons_succ]
          refine Segs.WP.val 6 rfl (some 73) (.pointer (some ⟨n12, 1, none⟩)) rfl (by kernel_rfl) (fun WW h => by kernel_rfl) ?_
          simp only [Act.put, List.setIfInBounds_toArray, List.set_cons_zero, List.set_cons_succ]
          refine Segs.WP.val 7 rfl (some 74) (.int .i64 ((tn : Int))) rfl (by kernel_rfl) (fun WW h => Segs.run_cell 3 (.tmp 73) rfl n12 1 (by kernel_rfl) _ (isAggInt _) (CA1.out WW (B2.out.call h).1)) ?_
          simp only [Act.put, List.setIfInBounds_toArray, List.set_cons_zero, List.set_cons_succ]
          refine Segs.WP.val 8 rfl (some 75) (.pointer (some ⟨nT, 1, none⟩)) rfl (by kernel_rfl) (fun WW h => by kernel_rfl) ?_
          simp only [Act.put, List.setIfInBounds_toArray, List.set_cons_zero, List.set_cons_succ]
          refine Segs.WP.val 9 rfl (some 76) (.int .i64 ((tn : Int))) rfl (by kernel_rfl) (fun WW h => Segs.run_cell 3 (.tmp 75) rfl nT 1 (by kernel_rfl) _ (isAggInt _) (CB1.out WW (B2.out.call h).1)) ?_
          simp only [Act.put, List.setIfInBounds_toArray, List.set_cons_zero, List.set_cons_succ]
          refine Segs.WP.val 10 rfl (some 77) (.bool false) rfl (by kernel_rfl) (fun WW h => run_nei rfl _ _ (by kernel_rfl) (by kernel_rfl) false NE1.out) ?_
          simp only [Act.put, List.setIfInBounds_toArray, List.set_cons_zero, List.set_cons_succ]
          refine Segs.WP.val 11 rfl (some 78) (.bool false) rfl (by kernel_rfl) (fun WW h => by kernel_rfl) ?_
          simp only [Act.put, List.setIfInBounds_toArray, List.set_cons_zero, List.set_cons_succ]
          refine Segs.WP.val 12 rfl (some 79) (.bool false) rfl (by kernel_rfl) (fun WW h => by kernel_rfl) ?_
          simp only [Act.put, List.setIfInBounds_toArray, List.set_cons_zero, List.set_cons_succ]
          refine Segs.WP.val 13 rfl (some 80) (.pointer (some ⟨n12, 2, none⟩)) rfl (by kernel_rfl) (fun WW h => by kernel_rfl) ?_
          simp only [Act.put, List.setIfInBounds_toArray, List.set_cons_zero, List.set_cons_succ]
          refine Segs.WP.val 14 rfl (some 81) (.slice Al tl.length cl) rfl (by kernel_rfl) (fun WW h => Segs.run_cell 60 (.tmp 80) rfl n12 2 (by kernel_rfl) _ (isAggInts _) (CA2.out WW (B2.out.call h).1)) ?_
          simp only [Act.put, List.setIfInBounds_toArray, List.set_cons_zero, List.set_cons_succ]
          refine Segs.WP.val 15 rfl (some 82) (.pointer (some ⟨nT, 2, none⟩)) rfl (by kernel_rfl) (fun WW h => by kernel_rfl) ?_
          simp only [Act.put, List.setIfInBounds_toArray, List.set_cons_zero, List.set_cons_succ]
          refine Segs.WP.val 16 rfl (some 83) (.slice Al8 tl.length cl8) rfl (by kernel_rfl) (fun WW h => Segs.run_cell 60 (.tmp 82) rfl nT 2 (by kernel_rfl) _ (isAggInts _) (CB2.out WW (B2.out.call h).1)) ?_
          simp only [Act.put, List.setIfInBounds_toArray, List.set_cons_zero, List.set_cons_succ]
          refine Segs.WP.call 17 rfl (some 84) 33 #[.slice Al tl.length cl, .slice Al8 tl.length cl8] (.bool true) rfl (by kernel_rfl) (fun W => by kernel_rfl) (fun WW h => (SI1.out WW ((Lib.hid (B2.out.call h)).out).1)) ?_
          simp only [Act.put, List.setIfInBounds_toArray, List.set_cons_zero, List.set_cons_succ]
          refine Segs.WP.val 18 rfl (some 85) (.bool false) rfl (by kernel_rfl) (fun WW h => by kernel_rfl) ?_
          simp only [Act.put, List.setIfInBounds_toArray, List.set_cons_zero, List.set_cons_succ]
          refine Segs.WP.val 19 rfl (some 86) (.bool false) rfl (by kernel_rfl) (fun WW h => by kernel_rfl) ?_
          simp only [Act.put, List.setIfInBounds_toArray, List.set_cons_zero, List.set_cons_succ]
          refine Segs.WP.val 20 rfl (some 87) (.bool false) rfl (by kernel_rfl) (fun WW h => by kernel_rfl) ?_
          simp only [Act.put, List.setIfInBounds_toArray, List.set_cons_zero, List.set_cons_succ]
          refine Segs.WP.val 21 rfl (some 88) (.bool true) rfl (by kernel_rfl) (fun WW h => by kernel_rfl) ?_
          simp only [Act.put, List.setIfInBounds_toArray, List.set_cons_zero, List.set_cons_succ]
          refine Segs.WP.val 22 rfl (some 89) (.bool false) rfl (by kernel_rfl) (fun WW h => by kernel_rfl) ?_
          simp only [Act.put, List.setIfInBounds_toArray, List.set_cons_zero, List.set_cons_succ]
          refine Segs.WP.val 23 rfl (some 90) (.bool false) rfl (by kernel_rfl) (fun WW h => by kernel_rfl) ?_
          simp only [Act.put, List.setIfInBounds_toArray, List.set_cons_zero, List.set_cons_succ]
          refine Segs.WP.val 24 rfl (some 91) (.bool false) rfl (by kernel_rfl) (fun WW h => by kernel_rfl) ?_
          simp only [Act.put, List.setIfInBounds_toArray, List.set_cons_zero, List.set_cons_succ]
          refine Segs.WP.val 25 rfl (some 92) (.pointer (some ⟨m, 0, none⟩)) rfl (by kernel_rfl) (fun WW h => by kernel_rfl) ?_
          simp only [Act.put, List.setIfInBounds_toArray, List.set_cons_zero, List.set_cons_succ]
          refine Segs.WP.val 27 rfl (some 94) (.agg #[.int .i64 (room : Int), .slice A8 n8 c8]) rfl (by kernel_rfl) (fun WW h => Segs.run_row 58 (.tmp 10) rfl G (by kernel_rfl) 58 #[.int .i64 (room : Int), .slice A8 n8 c8] _ (GF.out WW (B2.out.call h).1) Try.underlying58 rfl (by kernel_rfl)) ?_
          simp only [Act.put, List.setIfInBounds_toArray, List.set_cons_zero, List.set_cons_succ]
          refine Segs.WP.acallG 26 rfl (some 93) 34 #[.pointer (some ⟨m, 0, none⟩)] _ rfl (by kernel_rfl) (fun W => by kernel_rfl) (fun WW h => (FS.out WW (B2.out.call h).1)) (fun WW h e W3 hR => ?_)
          obtain ⟨Aa, ca, rfl, hb, hsA⟩ := hR
          have hx4 := Segs.Hist.trans _ _ _ h hb
          refine ⟨_, rfl, hb, ?_⟩
          simp only [Act.put, List.setIfInBounds_toArray, List.set_cons_zero, List.set_cons_succ]
          have B5 := Lib.hid (B2.out.call hx4)
          have SHA := Lib.hid hsA
          clear hsA
          clear hb hx4 h
          refine Segs.WP.acallG 28 rfl (some 95) 35 #[.agg #[.int .i64 (room : Int), .slice A8 n8 c8]] _ rfl (by kernel_rfl) (fun W => by kernel_rfl) (fun WW h => (RS.out WW (B5.out.call h).1)) (fun WW h e W6 hR => ?_)
          obtain ⟨Ab, cb, rfl, hb, hsB⟩ := hR
          have hx7 := Segs.Hist.trans _ _ _ h hb
          refine ⟨_, rfl, hb, ?_⟩
          simp only [Act.put, List.setIfInBounds_toArray, List.set_cons_zero, List.set_cons_succ]
          have B8 := Lib.hid (B5.out.call hx7)
          have SHB := Lib.hid hsB
          have SHC := Lib.hid (SHA.out.below hx7)
          have SI2 : Hid (∀ W, Below W6.heap.size W6 W → Calls Try.prog 33 #[.slice Aa t6.keys.length ca, .slice Ab t6.keys.length cb] W fun e w' => e = .returned (.bool true) ∧ Segs.Hist W w') := Lib.hid (fun W hW => sameInts_eq W Aa Ab ca cb t6.keys KLL.out (SHC.out.below hW) (SHB.out.below hW))
          clear hsB
          clear hb hx7 h
          refine Segs.WP.call 29 rfl (some 96) 33 #[.slice Aa t6.keys.length ca, .slice Ab t6.keys.length cb] (.bool true) rfl (by kernel_rfl) (fun W => by kernel_rfl) (fun WW h => (SI2.out WW h)) ?_
          simp only [Act.put, List.setIfInBounds_toArray, List.set_cons_zero, List.set_cons_succ]
          refine Segs.WP.val 30 rfl (some 97) (.bool false) rfl (by kernel_rfl) (fun WW h => by kernel_rfl) ?_
          simp only [Act.put, List.setIfInBounds_toArray, List.set_cons_zero, List.set_cons_succ]
          refine Segs.WP.val 31 rfl (some 98) (.bool false) rfl (by kernel_rfl) (fun WW h => by kernel_rfl) ?_
          simp only [Act.put, List.setIfInBounds_toArray, List.set_cons_zero, List.set_cons_succ]
          refine Segs.WP.val 32 rfl (some 99) (.bool false) rfl (by kernel_rfl) (fun WW h => by kernel_rfl) ?_
          simp only [Act.put, List.setIfInBounds_toArray, List.set_cons_zero, List.set_cons_succ]
          refine Segs.WP.val 33 rfl (some 100) (.pointer (some ⟨m, 0, none⟩)) rfl (by kernel_rfl) (fun WW h => by kernel_rfl) ?_
          simp only [Act.put, List.setIfInBounds_toArray, List.set_cons_zero, List.set_cons_succ]
          refine Segs.WP.val 34 rfl (some 101) (.int .i64 a2) rfl (by kernel_rfl) (fun WW h => by kernel_rfl) ?_
          simp only [Act.put, List.setIfInBounds_toArray, List.set_cons_zero, List.set_cons_succ]
          refine Segs.WP.call 35 rfl (some 102) 36 #[.pointer (some ⟨m, 0, none⟩), .int .i64 a2] (.bool xf) rfl (by kernel_rfl) (fun W => by kernel_rfl) (fun WW h => (FO.out WW ((Lib.hid (B8.out.call h)).out).1)) ?_
          simp only [Act.put, List.setIfInBounds_toArray, List.set_cons_zero, List.set_cons_succ]
          refine Segs.WP.val 36 rfl (some 103) (.pointer (some ⟨n16, 1, none⟩)) rfl (by kernel_rfl) (fun WW h => by kernel_rfl) ?_
          simp only [Act.put, List.setIfInBounds_toArray, List.set_cons_zero, List.set_cons_succ]
          refine Segs.WP.val 37 rfl (some 104) (.bool xf) rfl (by kernel_rfl) (fun WW h => Segs.run_cell 4 (.tmp 103) rfl n16 1 (by kernel_rfl) _ (isAggBool _) (CX1.out WW (B8.out.call h).1)) ?_
          simp only [Act.put, List.setIfInBounds_toArray, List.set_cons_zero, List.set_cons_succ]
          refine Segs.WP.val 38 rfl (some 105) (.bool false) rfl (by kernel_rfl) (fun WW h => run_neb rfl xf (by kernel_rfl) (by kernel_rfl)) ?_
          simp only [Act.put, List.setIfInBounds_toArray, List.set_cons_zero, List.set_cons_succ]
          refine Segs.WP.val 39 rfl (some 106) (.bool false) rfl (by kernel_rfl) (fun WW h => by kernel_rfl) ?_
          simp only [Act.put, List.setIfInBounds_toArray, List.set_cons_zero, List.set_cons_succ]
          refine Segs.WP.val 40 rfl (some 107) (.bool false) rfl (by kernel_rfl) (fun WW h => by kernel_rfl) ?_
          simp only [Act.put, List.setIfInBounds_toArray, List.set_cons_zero, List.set_cons_succ]
          refine Segs.WP.val 41 rfl (some 108) (.pointer (some ⟨m, 0, none⟩)) rfl (by kernel_rfl) (fun WW h => by kernel_rfl) ?_
          simp only [Act.put, List.setIfInBounds_toArray, List.set_cons_zero, List.set_cons_succ]
          refine Segs.WP.val 42 rfl (some 109) (.int .i64 a2) rfl (by kernel_rfl) (fun WW h => by kernel_rfl) ?_
          simp only [Act.put, List.setIfInBounds_toArray, List.set_cons_zero, List.set_cons_succ]
          refine Segs.WP.call 43 rfl (some 110) 37 #[.pointer (some ⟨m, 0, none⟩), .int .i64 a2] (.int .i64 ((xq.length : Int))) rfl (by kernel_rfl) (fun W => by kernel_rfl) (fun WW h => (WA.out WW ((Lib.hid (B8.out.call h)).out).1)) ?_
          simp only [Act.put, List.setIfInBounds_toArray, List.set_cons_zero, List.set_cons_succ]
          refine Segs.WP.val 44 rfl (some 111) (.pointer (some ⟨n16, 2, none⟩)) rfl (by kernel_rfl) (fun WW h => by kernel_rfl) ?_
          simp only [Act.put, List.setIfInBounds_toArray, List.set_cons_zero, List.set_cons_succ]
          refine Segs.WP.val 45 rfl (some 112) (.slice Bx xq.length cx) rfl (by kernel_rfl) (fun WW h => Segs.run_cell 72 (.tmp 111) rfl n16 2 (by kernel_rfl) _ (isAggNtcs _) (CX2.out WW (B8.out.call h).1)) ?_
          simp only [Act.put, List.setIfInBounds_toArray, List.set_cons_zero, List.set_cons_succ]
          refine Segs.WP.val 46 rfl (some 113) (.int .i64 ((xq.length : Int))) rfl (by kernel_rfl) (fun WW h => run_len rfl Bx xq.length cx (by kernel_rfl) (by kernel_rfl)) ?_
          simp only [Act.put, List.setIfInBounds_toArray, List.set_cons_zero, List.set_cons_succ]
          refine Segs.WP.val 47 rfl (some 114) (.bool false) rfl (by kernel_rfl) (fun WW h => run_nei rfl _ _ (by kernel_rfl) (by kernel_rfl) false NE2.out) ?_
          simp only [Act.put, List.setIfInBounds_toArray, List.set_cons_zero, List.set_cons_succ]
          refine Segs.WP.val 48 rfl (some 115) (.bool false) rfl (by kernel_rfl) (fun WW h => by kernel_rfl) ?_
          simp only [Act.put, List.setIfInBounds_toArray, List.set_cons_zero, List.set_cons_succ]
          refine Segs.WP.fin (fun W9 hx => ?_)
          have B10 := Lib.hid (B8.out.call hx)
          clear hx
          have H13 := Lib.hid (HZ12.out.call B10.out.1)
          have R13 := Lib.hid (RZ12.out.below B10.out.1)
          have G13 := Lib.hid (GZ12.out.call B10.out.1)
          obtain ⟨wz, hwz⟩ : ∃ z, z = W9 := ⟨_, rfl⟩
          rw [← hwz] at H13 R13 G13 ⊢
          clear hwz
          go_wp2_with fail
          exact ⟨⟨k + 1, by go_num, by omega, Lib.hid ⟨t6, rs6, _, H13.out, L6.out, RM6.out, F6.out, T6.out, R13.out, G13.out⟩⟩, by simp [intOf]; omega⟩
      · obtain rfl : k = l1.length := by omega
        go_wp2_with fail
        go_ret
        exact ⟨rfl, H.out.below⟩
end Go.Proofs.Ytjladlniilacjaa
