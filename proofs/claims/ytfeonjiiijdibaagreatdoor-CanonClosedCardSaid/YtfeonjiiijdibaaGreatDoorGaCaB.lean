/-
  Merged: CanBare, CanFork, CanGrow, CanWhole.
-/
import Derived.Test.YtfeonjiiijdibaaGreatDoorGaCaA
import Derived.Test.YtfeonjiiijdibaaGreatDoorGaCaP
import Derived.Test.YtfeonjiiijdibaaGreatDoorGaNodeC
import Derived.Test.YtfeonjiiijdibaaGreatDoorGaNodeD
import Derived.Deep.RegionHeld3
import Derived.Test.YtfeonjiiijdibaaGreatDoorGaMdB
import Derived.Deep.QuietTactic
import Derived.BigQuiet
import Derived.Test.YtfeonjiiijdibaaGreatDoorGaNib
import Derived.Test.YtfeonjiiijdibaaGreatDoorNodeColl
namespace Go.Proofs.YtfeonjiiijdibaaGreatDoor
open Go.RowKit Go.Proofs.Nod Go.Proofs.Can
open Go.Proofs.Mdl hiding e0
set_option linter.unusedVariables false
set_option linter.unusedSimpArgs false
theorem put_any (n : Nd) (h16 : n.refs.length = 16) (W : World) (hl : Laid2 W) : Calls Tryz.prog 61 #[.agg (ndC n)] W fun e w' => ∃ r, e = .returned (.tuple #[.string (putB n), .int .i64 r]) ∧ Below W.heap.size W w' :=
  (put_all n W h16 (fun r _ h => get_any r (by omega)) hl).mono (fun e w' h => ⟨_, h.1, h.2⟩)
/-- A struct of two cells, as a result. -/
theorem results_tree2 {fn : Func} (h : fn.results = #[.cell 2 67]) {tmps : Array Value} {w : World} (g : Nat) (hs : tmps[2]?.getD undef = .pointer (some ⟨g, 0, none⟩)) (x y : Value) (hb : Blk w g 67 #[x, y]) : (results fn tmps).run Tryz.prog w = .ok (.agg #[x, y]) w := by
  have h0 := hb.cell 0
  have h1 := hb.cell 1
  simp only [List.getElem?_toArray, List.getElem?_cons_succ, List.getElem?_cons_zero] at h0 h1
  simp [results, h, hs, go_sem, h0, h1]
theorem results_tree4 {fn : Func} (h : fn.results = #[.cell 4 67]) {tmps : Array Value} {w : World} (g : Nat) (hs : tmps[4]?.getD undef = .pointer (some ⟨g, 0, none⟩)) (x y : Value) (hb : Blk w g 67 #[x, y]) : (results fn tmps).run Tryz.prog w = .ok (.agg #[x, y]) w := by
  have h0 := hb.cell 0
  have h1 := hb.cell 1
  simp only [List.getElem?_toArray, List.getElem?_cons_succ, List.getElem?_cons_zero] at h0 h1
  simp [results, h, hs, go_sem, h0, h1]
set_option maxRecDepth 100000 in
set_option maxHeartbeats 2000000 in
theorem bare_any (n : Nd) (h16 : n.refs.length = 16) (w : World) (hl : LaidN w) :
    Calls Tryz.prog 100 #[.agg (ndC n)] w fun e w' => e = .returned (.agg #[.string (putB n), .slice none 0 0]) ∧ Below w.heap.size w w' := by
  have b0 := (Bl.start w).alloc (.cells (ndC n) 51)
  have k0 := Blk.new w 51 (ndC n)
  have k1 := k0.alloc (.cells #[.string ⟨#[]⟩, .slice none 0 0] 67)
  have b1 := b0.alloc (.cells #[.string ⟨#[]⟩, .slice none 0 0] 67)
  have m1 := Blk.new (w.alloc (.cells (ndC n) 51)) 67 #[.string ⟨#[]⟩, .slice none 0 0]
  have l1 : LaidN ((w.alloc (.cells (ndC n) 51)).alloc (.cells #[.string ⟨#[]⟩, .slice none 0 0] 67)) := hl.on b1.1
  rw [World.size_alloc] at m1
  have PT := Lib.hid (put_any n h16 _ l1.err)
  obtain ⟨CS, hCS⟩ : ∃ cs, cs = ndC n := ⟨_, rfl⟩
  have hcs : Ndc CS := by rw [hCS]; exact .of _
  rw [← hCS] at PT b1 k1 m1 ⊢
  obtain ⟨T, hT⟩ : ∃ t, t = putB n := ⟨_, rfl⟩
  rw [← hT] at PT ⊢
  have NC := Lib.hid hcs
  have K1 := Lib.hid k1
  have M1 := Lib.hid m1
  have B1 := Lib.hid b1
  clear hcs k1 b1 m1 k0 b0 l1 hCS hT hl h16
  go_enter Tryz.func100, Tryz.ntmps100
  go_wp2_with (refine wpList_load_nd rfl (some 6) rfl (.tmp 1) rfl w.heap.size rfl 51 CS K1.out NC.out ?_)
  refine PT.out.mono ?_
  rintro e w2 ⟨r, rfl, hb2⟩
  have M2 := Lib.hid (M1.out.below hb2)
  have B2 := Lib.hid (B1.out.call hb2)
  clear hb2
  have f0 := M2.out.frozen 0
  have f1 := M2.out.frozen 1
  have c0 := M2.out.cell 0
  have c1 := M2.out.cell 1
  simp only [List.getElem?_toArray, List.getElem?_cons_succ, List.getElem?_cons_zero] at c0 c1
  go_wp2_with fail
  have M3 := (M2.out.set 0 (.string T)).set 1 (.slice none 0 0)
  refine bodyPost_ret (results_tree2 rfl (w.heap.size + 1) rfl (.string T) (.slice none 0 0) M3) rfl ?_
  exact ⟨rfl, ((B2.out.setCell (p := ⟨w.heap.size + 1, 0, none⟩) (by simp) _).setCell (p := ⟨w.heap.size + 1, 1, none⟩) (by simp) _).1⟩
/-- A tree that refers to one. -/
theorem Trs.one {N : Nat → Prop} {w : World} {s : Tr} {u : Value} {r : Nat} {T : TypeId} {x : ByteArray} (h : Trs N w u s.b) (hr : Blk w r T #[.string x, u]) (hx : x = tx s) (hN : N r) : Trs N w (.slice (some ⟨r, 0, none⟩) 1 1) [s] := by
  subst hx
  have h0 := hr.cell 0
  have h1 := hr.cell 1
  simp only [List.getElem?_toArray, List.getElem?_cons_succ, List.getElem?_cons_zero] at h0 h1
  refine .row r 0 1 [s] [u] hN hr.lt (Nat.le_refl _) rfl (fun j t v hj hv => ?_) (fun j t v hj hv => ?_)
  · rcases j with _ | j
    · simp only [List.getElem?_cons_zero, Option.some.injEq] at hj hv
      subst hj; subst hv
      exact ⟨h0, h1⟩
    · simp at hj
  · rcases j with _ | j
    · simp only [List.getElem?_cons_zero, Option.some.injEq] at hj hv
      subst hj; subst hv
      exact h
    · simp at hj
/-- What grow is to do. -/
def Grd (t : Tr) (w : World) (e : Ending) (w' : World) : Prop := ∃ v', e = .returned v' ∧ Tv (fun b => w.heap.size ≤ b) w' v' t ∧ Below w.heap.size w w'
def GrowC (l : List Ent) (t : Tr) : Prop := ∀ W v, Es W v l → LaidN W → Calls Tryz.prog 70 #[v] W (Grd t W)
theorem slice_to (s : ByteArray) (n : Nat) (h : n ≤ s.size) (W : World) : (Instr.slice 9 (.string s) none (some (.int .i64 (n : Int))) none).run Tryz.prog W = .ok (.string (s.extract 0 n)) W := by
  rw [run_slice_string_h _ _ _ Tryz.underlying9 _ _ (by omega) (by omega)]
  rfl
set_option maxRecDepth 100000 in
set_option maxHeartbeats 4000000 in
theorem extend_any {w : World} {v : Value} {l : List Ent} {x : Ent} {t : Tr} {c : Nat} (h : Es w v l) (hx : l[0]? = some x) (hl : l.length ≤ 1000) (hc : c ≤ 1000) (hs : ∀ e ∈ l, c ≤ e.k.size) (ih : GrowC (wo c l) t) (ht : (tx t).size ≤ 700) (hL : LaidN w) :
    Calls Tryz.prog 102 #[v, .int .i64 (c : Int)] w (Grd (extTr (x.k.extract 0 c) t) w) := by
  have b0 := (Bl.start w).alloc (.cells #[.string ⟨#[]⟩, .slice none 0 0] 67)
  have k0 := Blk.new w 67 #[.string ⟨#[]⟩, .slice none 0 0]
  have WO := Lib.hid (woH_any (h.below b0.1) hl hc hs)
  have LA : Hid (∀ W, Below w.heap.size w W → LaidN W) := Lib.hid (fun W h => hL.on h)
  have hxs := hs x (List.mem_of_getElem? hx)
  have slt := slice_to x.k c hxs
  have HE : Hid (∀ W, Below w.heap.size w W → Es W v l) := Lib.hid (fun W hW => h.below hW)
  have HX := Lib.hid hx
  have IH := Lib.hid ih
  obtain ⟨A, cap, rfl⟩ := h.shape
  have RF := Lib.hid (fun (W : World) (hW : LaidN W) => ref_any (tx t) W (by omega) hW.sha)
  have PT := Lib.hid (fun (W : World) (hW : LaidN W) => put_any (extN (x.k.extract 0 c) (refB (tx t))) rfl W hW.err)
  have hset := ext_set (x.k.extract 0 c) (refB (tx t))
  have K0 := Lib.hid k0
  have B0 := Lib.hid b0
  have LN : Hid (l.length = (wo c l).length) := Lib.hid (wo_length c l).symm
  unfold Grd
  have HT : Hid (putB (extN (x.k.extract 0 c) (refB (tx t))) = tx (extTr (x.k.extract 0 c) t)) := Lib.hid rfl
  have HTB : Hid ((extTr (x.k.extract 0 c) t).b = [t]) := Lib.hid rfl
  rw [HT.out] at PT
  generalize extTr (x.k.extract 0 c) t = XT at *
  obtain ⟨xk, xv⟩ := x
  simp only at slt hset PT HX
  obtain ⟨P, hP⟩ : ∃ p, p = xk.extract 0 c := ⟨_, rfl⟩
  rw [← hP] at slt hset PT
  obtain ⟨T, hT⟩ : ∃ q, q = tx t := ⟨_, rfl⟩
  rw [← hT] at hset RF PT
  have HTT := Lib.hid hT
  obtain ⟨R, hR⟩ : ∃ q, q = refB T := ⟨_, rfl⟩
  rw [← hR] at hset RF PT
  obtain ⟨E0, hE0⟩ : ∃ z, z = ndC (extN P e0) := ⟨_, rfl⟩
  obtain ⟨E1, hE1⟩ : ∃ z, z = ndC (extN P R) := ⟨_, rfl⟩
  obtain ⟨Z0, hZ0⟩ : ∃ z, z = ndC zeroN := ⟨_, rfl⟩
  rw [← hE0, ← hE1] at hset
  rw [← hE1] at PT
  have ne0 : Ndc E0 := by rw [hE0]; exact .of _
  have ne1 : Ndc E1 := by rw [hE1]; exact .of _
  have nz : Ndc Z0 := by rw [hZ0]; exact .of _
  have g3 : E0[3]? = some (.string ⟨#[]⟩) := by rw [hE0]; rfl
  have HE0 := Lib.hid hE0
  have HZ0 := Lib.hid hZ0
  have NE0 := Lib.hid ne0
  have NE1 := Lib.hid ne1
  have NZ := Lib.hid nz
  have HSET := Lib.hid hset
  have G3 := Lib.hid g3
  clear hE0 hE1 hZ0 ne0 ne1 nz hset g3 hR hT hP b0 k0 h hx hs ih ht hL hxs
  go_enter Tryz.func102, Tryz.ntmps102
  go_upto_region 1 with (fail)
  generalize w.alloc (.cells #[.string ⟨#[]⟩, .slice none 0 0] 67) = w1 at *
  obtain ⟨r, hr⟩ : ∃ r, r = w.heap.size := ⟨_, rfl⟩
  have HR := Lib.hid hr
  rw [← hr] at K0 B0 ⊢
  clear hr
  go_upto_region 2 with (first
    | (go_at_call 133; refine WO.out.mono ?_; rintro e w2 ⟨v2, rfl, hown, hb2⟩; have OW := Lib.hid hown; have B2 := Lib.hid (B0.out.call hb2); have K2 := Lib.hid (K0.out.below hb2); clear hown hb2)
    | (go_at_call 70; refine (IH.out _ _ (Es.of_own OW.out) (LA.out _ (by rw [← HR.out]; exact B2.out.1))).mono ?_; rintro e w3 ⟨v3, rfl, ⟨u3, hv3, hts⟩, hb3⟩; rw [← HTT.out] at hv3; subst hv3; have TS3 := Lib.hid hts; have B3 := Lib.hid (B2.out.call hb3); have K3 := Lib.hid (K2.out.below hb3); have W23 := Lib.hid hb3.size; obtain ⟨A3, c3, hu3⟩ := hts.shape; subst hu3; clear hts hb3))
  have bw3 : Below w.heap.size w w3 := by rw [← HR.out]; exact B3.out.1
  have RW : Hid (r < w3.heap.size) := Lib.hid K3.out.lt
  have K4 := Lib.hid (K3.out.alloc (.cells #[.string T, .slice A3 t.b.length c3] 67))
  have M4 := Lib.hid (Blk.new w3 67 #[.string T, .slice A3 t.b.length c3])
  have B4 := Lib.hid (B3.out.alloc (.cells #[.string T, .slice A3 t.b.length c3] 67))
  have TS4 := Lib.hid (TS3.out.stay ((Below.refl _ _).alloc (Nat.le_refl _) (.cells #[.string T, .slice A3 t.b.length c3] 67)))
  have W24 : Hid (r < w2.heap.size) := Lib.hid K2.out.lt
  clear B2 B3 K2 K3 TS3 OW WO IH bw3
  generalize w3.alloc (.cells #[.string T, .slice A3 t.b.length c3] 67) = w4 at *
  obtain ⟨m, hm⟩ : ∃ m, m = w3.heap.size := ⟨_, rfl⟩
  rw [← hm] at M4 RW ⊢
  clear hm
  obtain ⟨b, o, cc, hv, hbl, d0, d1⟩ := (HE.out w4 (by rw [← HR.out]; exact B4.out.1)).at_ HX.out
  simp only [Value.slice.injEq] at hv
  obtain ⟨rfl, -, -⟩ := hv
  simp only [Nat.zero_mul, Nat.add_zero] at d0
  have i0 : 0 < l.length := (List.getElem?_eq_some_iff.1 HX.out).1
  have i1 : (0 : Int) < (l.length : Int) := by omega
  obtain ⟨n, hn⟩ : ∃ n, n = w4.heap.size := ⟨_, rfl⟩
  have HNN := Lib.hid hn
  have A5 := Lib.hid (Blk.new w4 51 Z0)
  have X5 := Lib.hid ((Blk.new w4 51 Z0).row (cs := E0))
  have KR : Hid (r ≠ n) := Lib.hid (by have := K4.out.lt; omega)
  have MR : Hid (m ≠ n) := Lib.hid (by have := M4.out.lt; omega)
  have K5 := Lib.hid ((K4.out.alloc (.cells Z0 51)).rowOther (g' := w4.heap.size) (cs := E0) (by rw [← hn]; exact KR.out))
  have M5 := Lib.hid ((M4.out.alloc (.cells Z0 51)).rowOther (g' := w4.heap.size) (cs := E0) (by rw [← hn]; exact MR.out))
  have B5 := Lib.hid (Bl.setRow (B4.out.alloc (.cells Z0 51)) (g := w4.heap.size) B4.out.2 E0)
  have TS5 : Hid (Trs (fun b => w2.heap.size ≤ b ∧ b ≠ n) ((w4.alloc (.cells Z0 51)).setRow w4.heap.size E0) (.slice A3 t.b.length c3) t.b) := Lib.hid ((TS4.out.mono (fun b h1 h2 => ⟨h1, by omega⟩)).stay (Bl.setRow ((Bl.start w4).alloc (.cells Z0 51)) (g := w4.heap.size) (Nat.le_refl _) E0).1)
  rw [← hn] at A5 X5 K5 M5 B5 TS5
  have NR : Hid (r ≤ n) := Lib.hid (by have := RW.out; have := M4.out.lt; omega)
  clear hn
  go_upto_region 3 with (first
    | (refine wpList_build_ext rfl (some 19) rfl (.tmp 18) rfl _ rfl E0 HE0.out ?_)
    | (refine wpList_alloc_nd rfl (some 6) rfl rfl Z0 HZ0.out n HNN.out.symm ?_)
    | (refine wpList_store_nd rfl (.tmp 6) (.tmp 19) rfl rfl n E0 rfl rfl 51 Z0 A5.out NE0.out NZ.out ?_))
  clear d0 d1 hbl A5 M4 K4 B4 TS4
  generalize (w4.alloc (.cells Z0 51)).setRow n E0 = w5 at *
  have t0 := M5.out.cell 0
  simp only [List.getElem?_toArray, List.getElem?_cons_zero] at t0
  go_upto_region 4 with (go_at_call 42; refine (RF.out _ (LA.out _ (by rw [← HR.out]; exact B5.out.1))).mono ?_; rintro e w6 ⟨rfl, hb6⟩; have X6 := Lib.hid (X5.out.below hb6); have K6 := Lib.hid (K5.out.below hb6); have M6 := Lib.hid (M5.out.below hb6); have B6 := Lib.hid (B5.out.call hb6); have TS6 := Lib.hid (TS5.out.stay hb6); have x3 := (X6.out.cell 3).trans G3.out; have f3 := X6.out.frozen 3; clear hb6)
  have X7 : Hid (Blk (w6.setCell ⟨n, 3, none⟩ (.string R)) n 51 E1) := Lib.hid (by have := X6.out.set 3 (.string R); rwa [HSET.out] at this)
  have K7 := Lib.hid (K6.out.other (p := ⟨n, 3, none⟩) KR.out (.string R))
  have M7 := Lib.hid (M6.out.other (p := ⟨n, 3, none⟩) MR.out (.string R))
  have B7 := Lib.hid (B6.out.setCell (p := ⟨n, 3, none⟩) NR.out (.string R))
  have TS7 := Lib.hid (TS6.out.far ((Far.refl (fun i => i = n) w6).setCell (p := ⟨n, 3, none⟩) (fun _ => rfl) (.string R)) (fun b h _ e => h.2 e))
  generalize w6.setCell ⟨n, 3, none⟩ (.string R) = w7 at *
  clear x3 f3 t0 X5 K5 M5 B5 TS5 X6 K6 M6 B6 TS6
  go_upto_region 5 with (first
    | (refine wpList_load_nd rfl (some 26) rfl (.tmp 6) rfl n rfl 51 E1 X7.out NE1.out ?_)
    | (go_at_call 61; refine (PT.out _ (LA.out _ (by rw [← HR.out]; exact B7.out.1))).mono ?_; rintro e w8 ⟨rr, rfl, hb8⟩; have K8 := Lib.hid (K7.out.below hb8); have M8 := Lib.hid (M7.out.below hb8); have B8 := Lib.hid (B7.out.call hb8); have TS8 := Lib.hid (TS7.out.stay hb8); clear hb8))
  have t0 := M8.out.cell 0
  have t1 := M8.out.cell 1
  simp only [List.getElem?_toArray, List.getElem?_cons_succ, List.getElem?_cons_zero] at t0 t1
  have R9 := Lib.hid (Blk.new w8 67 #[.string T, .slice A3 t.b.length c3])
  have K9 := Lib.hid (K8.out.alloc (.cells #[.string T, .slice A3 t.b.length c3] 67))
  have B9 := Lib.hid (B8.out.alloc (.cells #[.string T, .slice A3 t.b.length c3] 67))
  have TS9 := Lib.hid (TS8.out.stay ((Below.refl _ _).alloc (Nat.le_refl _) (.cells #[.string T, .slice A3 t.b.length c3] 67)))
  have RS : Hid (r < w8.heap.size) := Lib.hid K8.out.lt
  have f0 := K9.out.frozen 0
  have f1 := K9.out.frozen 1
  have k0 := K9.out.cell 0
  have k1 := K9.out.cell 1
  simp only [List.getElem?_toArray, List.getElem?_cons_succ, List.getElem?_cons_zero] at k0 k1
  go_wp2_with fail
  have RN : w8.heap.size ≠ r := by have := RS.out; omega
  have KF := (K9.out.set 0 (.string (tx XT))).set 1 (.slice (some ⟨w8.heap.size, 0, none⟩) 1 1)
  have RF9 := (R9.out.other (p := ⟨r, 0, none⟩) RN (.string (tx XT))).other (p := ⟨r, 1, none⟩) RN (.slice (some ⟨w8.heap.size, 0, none⟩) 1 1)
  have BF := (B9.out.setCell (p := ⟨r, 0, none⟩) (Nat.le_refl _) (.string (tx XT))).setCell (p := ⟨r, 1, none⟩) (Nat.le_refl _) (.slice (some ⟨w8.heap.size, 0, none⟩) 1 1)
  have FF := ((Far.refl (fun i => i = r) (w8.alloc (.cells #[.string T, .slice A3 t.b.length c3] 67))).setCell (p := ⟨r, 0, none⟩) (fun _ => rfl) (.string (tx XT))).setCell (p := ⟨r, 1, none⟩) (fun _ => rfl) (.slice (some ⟨w8.heap.size, 0, none⟩) 1 1)
  have TSF := TS9.out.far FF (fun b h _ e => by have e2 : b = r := e; have := h.1; have := W24.out; omega)
  refine bodyPost_ret (results_tree4 rfl r rfl (.string (tx XT)) (.slice (some ⟨w8.heap.size, 0, none⟩) 1 1) KF) rfl ?_
  refine ⟨_, rfl, ⟨_, rfl, ?_⟩, by rw [← HR.out]; exact BF.1⟩
  rw [HTB.out]
  exact Trs.one (TSF.mono (fun b h _ => by rw [← HR.out]; exact Nat.le_trans (Nat.le_of_lt W24.out) h.1)) RF9 HTT.out (by rw [← HR.out]; exact Nat.le_of_lt RS.out)
end Go.Proofs.YtfeonjiiijdibaaGreatDoor
namespace Go.Proofs.YtfeonjiiijdibaaGreatDoor
open Go.RowKit Go.Proofs.Nod Go.Proofs.Can
open Go.Proofs.Mdl hiding e0
set_option linter.unusedVariables false
set_option linter.unusedSimpArgs false
/-- A Branch of which the first k refs are laid. -/
def fkN (v : ByteArray) (rs : List ByteArray) (k : Nat) : Nd := ⟨3, e0, v, rs.take k ++ List.replicate (16 - k) e0⟩
theorem fkN_16 (v : ByteArray) (rs : List ByteArray) (h : rs.length = 16) (k : Nat) (hk : k ≤ 16) : (fkN v rs k).refs.length = 16 := by
  unfold fkN
  simp [h]
  omega
theorem fkN_end (v : ByteArray) (rs : List ByteArray) (h : rs.length = 16) : fkN v rs 16 = ⟨3, e0, v, rs⟩ := by
  unfold fkN
  rw [List.take_of_length_le (by omega)]
  simp
theorem rf_fkN (v : ByteArray) (rs : List ByteArray) (h : rs.length = 16) (k i : Nat) (hk : k ≤ 16) (hi : i < 16) : rf (fkN v rs k) i = if i < k then rs.getD i e0 else e0 := by
  unfold rf fkN
  simp only [List.getD_eq_getElem?_getD]
  by_cases hik : i < k
  · rw [if_pos hik, List.getElem?_append_left (by simp; omega), List.getElem?_take_of_lt hik]
  · rw [if_neg hik, List.getElem?_append_right (by simp; omega), List.getElem?_replicate]
    split <;> rfl
theorem fkN_step (v : ByteArray) (rs : List ByteArray) (h : rs.length = 16) (k : Nat) (hk : k < 16) (x : ByteArray) (hx : rs[k]? = some x) : (ndC (fkN v rs k)).setIfInBounds (3 + k) (.string x) = ndC (fkN v rs (k + 1)) := by
  refine ndC_set _ _ k hk x rfl rfl rfl (fun i hi => ?_)
  rw [rf_fkN v rs h _ _ (by omega) hi, rf_fkN v rs h _ _ (by omega) hi]
  by_cases e : i = k
  · subst e
    rw [if_pos rfl, if_pos (by omega), List.getD_eq_getElem?_getD, hx]
    rfl
  · rw [if_neg e]
    by_cases e2 : i < k
    · rw [if_pos e2, if_pos (by omega)]
    · rw [if_neg e2, if_neg (by omega)]
theorem fkN_skip (v : ByteArray) (rs : List ByteArray) (h : rs.length = 16) (k : Nat) (hk : k < 16) (hx : rs[k]? = some e0) : ndC (fkN v rs (k + 1)) = ndC (fkN v rs k) := by
  rw [← fkN_step v rs h k hk e0 hx]
  refine ndC_set _ _ k hk e0 rfl rfl rfl (fun i hi => ?_)
  by_cases e : i = k
  · subst e
    rw [if_pos rfl, rf_fkN v rs h _ _ (by omega) hi, if_neg (Nat.lt_irrefl _)]
  · rw [if_neg e]
theorem fkN_val (v : ByteArray) (rs : List ByteArray) (k : Nat) (b : ByteArray) : (ndC (fkN v rs k)).setIfInBounds 2 (.string b) = ndC (fkN b rs k) := ndC_val _ _
theorem fkN_zero (rs : List ByteArray) : ndC (fkN e0 rs 0) = #[.int .i64 3, .string ⟨#[]⟩, .string ⟨#[]⟩, .string ⟨#[]⟩, .string ⟨#[]⟩, .string ⟨#[]⟩, .string ⟨#[]⟩, .string ⟨#[]⟩, .string ⟨#[]⟩, .string ⟨#[]⟩, .string ⟨#[]⟩, .string ⟨#[]⟩, .string ⟨#[]⟩, .string ⟨#[]⟩, .string ⟨#[]⟩, .string ⟨#[]⟩, .string ⟨#[]⟩, .string ⟨#[]⟩, .string ⟨#[]⟩] := rfl
theorem built_fk (rs : List ByteArray) : Tryz.prog.built 51 [(0, .int .i64 3)] = some (ndC (fkN e0 rs 0)) := by rw [fkN_zero]; exact built_br
/-- The value of what ends here, of the first k of them. -/
def endF (l : List Ent) : ByteArray := l.foldl (fun _ e => e.v) e0
theorem endF_step {l : List Ent} {k : Nat} {e : Ent} (h : l[k]? = some e) : endF (l.take (k + 1)) = e.v := by
  unfold endF
  rw [List.take_add_one, h, List.foldl_append]
  rfl
theorem forkBelow_step (sub : Nat → Tr) (l : List Ent) (k : Nat) : forkBelow sub l (k + 1) = forkBelow sub l k ++ (if atL k l = [] then [] else [sub k]) := by
  unfold forkBelow
  rw [List.range_succ, List.filterMap_append]
  congr 1
  by_cases h : atL k l = []
  · rw [if_pos h]
    simp [h]
  · rw [if_neg h]
    simp [h]
theorem forkBelow_le (sub : Nat → Tr) (l : List Ent) (k : Nat) : (forkBelow sub l k).length ≤ k := by
  unfold forkBelow
  have := List.length_filterMap_le (fun i => if atL i l = [] then none else some (sub i)) (List.range k)
  rwa [List.length_range] at this
theorem forkRefs_at (sub : Nat → Tr) (l : List Ent) {k : Nat} (hk : k < 16) : (forkRefs sub l)[k]? = some (if atL k l = [] then e0 else refB (tx (sub k))) := by
  unfold forkRefs
  rw [List.getElem?_map, List.getElem?_range hk]
  rfl
theorem forkRefs_length (sub : Nat → Tr) (l : List Ent) : (forkRefs sub l).length = 16 := by unfold forkRefs; simp
theorem elemTree : Tryz.prog.underlying 65 = some (.slice 67) := Tryz.underlying65
theorem infoTree : (Tryz.prog.info? 67).map (fun i => (i.zero, i.size, i.bytes)) = some (some (.agg #[.string ⟨#[]⟩, .slice none 0 0]), 2, 40) := by kernel_rfl
/-- The trees below, so far: a row of one's own, each tree in older blocks. -/
def Bw (B : Nat) (w : World) (v : Value) (ts : List Tr) : Prop := ∃ vs : List Value, vs.length = ts.length ∧ w.ownsRow B 67 2 v ts.length (flatT ts vs) ∧ ∀ (j : Nat) (t : Tr) (u : Value), ts[j]? = some t → vs[j]? = some u → Trs (fun b => B ≤ b ∧ ¬ v.ownBlock = some b) w u t.b
theorem Bw.nil (B : Nat) (w : World) : Bw B w (.slice none 0 0) [] := ⟨[], rfl, ⟨rfl, .inl ⟨rfl, rfl⟩⟩, fun j t u h => by simp at h⟩
theorem Bw.far {S : Nat → Prop} {B : Nat} {w w' : World} {v : Value} {ts : List Tr} (h : Bw B w v ts) (k : Far S w w') (hS : ∀ b, B ≤ b → ¬ S b) : Bw B w' v ts := by
  obtain ⟨vs, h1, h2, h3⟩ := h
  exact ⟨vs, h1, own_far h2 k (fun b hb => hS b (h2.lt b hb).1), fun j t u a b => (h3 j t u a b).far k (fun b hb _ => hS b hb.1)⟩
theorem Bw.below {B : Nat} {w w' : World} {v : Value} {ts : List Tr} (h : Bw B w v ts) (k : Below w.heap.size w w') : Bw B w' v ts := by
  obtain ⟨vs, h1, h2, h3⟩ := h
  exact ⟨vs, h1, own_below h2 k, fun j t u a b => (h3 j t u a b).stay k⟩
theorem Bw.shape {B : Nat} {w : World} {v : Value} {ts : List Tr} (h : Bw B w v ts) : ∃ A c, v = .slice A ts.length c := by
  obtain ⟨vs, h1, h2, h3⟩ := h
  exact own_shape h2
/-- One tree more. -/
theorem bw_snoc {B : Nat} {w wb : World} {v v' : Value} {ts : List Tr} {vs : List Value} {t : Tr} {u : Value} (h1 : vs.length = ts.length) (h3 : ∀ (j : Nat) (t : Tr) (u : Value), ts[j]? = some t → vs[j]? = some u → Trs (fun b => B ≤ b ∧ ¬ v.ownBlock = some b) w u t.b)
    {x : ByteArray} (hx : x = tx t) (ht : Trs (fun b => B ≤ b ∧ ¬ v.ownBlock = some b) w u t.b) (hown : wb.ownsRow B 67 2 v' (ts.length + 1) (flatT ts vs ++ [.string x, u])) (hgr : w.grownBy wb v.ownBlock) (hb : v'.ownBlock = v.ownBlock ∨ v'.ownBlock = some w.heap.size) : Bw B wb v' (ts ++ [t]) := by
  subst hx
  have key : ∀ u (t : Tr), Trs (fun b => B ≤ b ∧ ¬ v.ownBlock = some b) w u t.b → Trs (fun b => B ≤ b ∧ ¬ v'.ownBlock = some b) wb u t.b := fun u t h => by
    have a1 : Trs (fun b => B ≤ b ∧ ¬ v.ownBlock = some b ∧ ¬ v'.ownBlock = some b) w u t.b := h.mono (fun b hb1 hlt => ⟨hb1.1, hb1.2, fun e => by
      rcases hb with hb | hb
      · exact hb1.2 (hb ▸ e)
      · rw [hb] at e
        have := Option.some.inj e
        omega⟩)
    have F : Far (fun i => v.ownBlock = some i) w wb := (Far.refl (fun i => v.ownBlock = some i) w).grown hgr (fun i _ e => e)
    exact (a1.far F (fun b hb _ => hb.2.1)).mono (fun b hb _ => ⟨hb.1, hb.2.2⟩)
  refine ⟨vs ++ [u], by simp [h1], ?_, fun j t' u' hj hu => ?_⟩
  · rw [flatT_append ts vs t u h1, List.length_append]
    exact hown
  · by_cases hlt : j < ts.length
    · rw [List.getElem?_append_left hlt] at hj
      rw [List.getElem?_append_left (by omega)] at hu
      exact key u' t' (h3 j t' u' hj hu)
    · have hlen := (List.getElem?_eq_some_iff.1 hj).1
      simp only [List.length_append, List.length_cons, List.length_nil] at hlen
      have e : j = ts.length := by omega
      rw [e, List.getElem?_append_right (Nat.le_refl _)] at hj
      rw [e, ← h1, List.getElem?_append_right (Nat.le_refl _)] at hu
      simp only [Nat.sub_self, List.getElem?_cons_zero, Option.some.injEq] at hj hu
      subst hj; subst hu
      exact key _ _ ht
theorem Bw.ts {B : Nat} {w : World} {v : Value} {ts : List Tr} {N : Nat → Prop} (h : Bw B w v ts) (hN : ∀ b, B ≤ b → N b) : Trs N w v ts := by
  obtain ⟨vs, h1, h2, h3⟩ := h
  exact Trs.of_own h2 h1 (fun g hg => hN g (h2.lt g hg).1) (fun j t u a b => (h3 j t u a b).mono (fun b hb _ => hN b hb.1))
section
variable {ops : Array Oper} {rest : List Oper} {o : Oper} {a : Act} {w : World} {Q : Exit → Act → World → Prop}
theorem built_fk_of {cs : Array Value} {rs : List ByteArray} {x : Value} (h : cs = ndC (fkN e0 rs 0)) (hx : x = .int .i64 3) :
    Tryz.prog.built 51 ((#[(0, .const x)] : Array (Nat × Operand)).map fun (i, x) => (i, a.eval x)).toList = some cs := by
  simp only [List.map_toArray, List.map_cons, List.map_nil]
  rw [show a.eval (.const x) = x from rfl, hx, h, built_fk rs]
theorem wpList_build_fk {rs : List ByteArray} (hg : o.guard = none) (d : Option Tmp) (hd : o.dst = d) (ho : o.op = .build 51 #[(0, .const (.int .i64 3))])
    (cs : Array Value) (hz : cs = ndC (fkN e0 rs 0)) (h : wpList Tryz.prog ops Q rest (a.put d (.agg cs)) w) : wpList Tryz.prog ops Q (o :: rest) a w :=
  wpList_buildTo hg 51 _ ho d hd cs (built_fk_of hz rfl) h
end
set_option maxRecDepth 100000 in
set_option maxHeartbeats 8000000 in
theorem fork_any {w : World} {v : Value} {l : List Ent} {sub : Nat → Tr} (h : Es w v l) (hl : l.length ≤ 1000) (ih : ∀ i, i < 16 → ¬ atL i l = [] → GrowC (wo 1 (atL i l)) (sub i)) (ht : ∀ i, i < 16 → ¬ atL i l = [] → (tx (sub i)).size ≤ 700) (hL : LaidN w) :
    Calls Tryz.prog 103 #[v] w (Grd (forkTr sub l) w) := by
  have HE : Hid (∀ W, Below w.heap.size w W → Es W v l) := Lib.hid (fun W hW => h.below hW)
  have LA : Hid (∀ W, Below w.heap.size w W → LaidN W) := Lib.hid (fun W h => hL.on h)
  obtain ⟨A, cap, rfl⟩ := h.shape
  obtain ⟨rs, hrs⟩ : ∃ rs, rs = forkRefs sub l := ⟨_, rfl⟩
  have R16 : Hid (rs.length = 16) := Lib.hid (by rw [hrs]; exact forkRefs_length sub l)
  have RAT : Hid (∀ k, k < 16 → rs[k]? = some (if atL k l = [] then e0 else refB (tx (sub k)))) := Lib.hid (fun k hk => by rw [hrs]; exact forkRefs_at sub l hk)
  have PT := Lib.hid (fun (W : World) (hW : LaidN W) => put_any (forkN sub l) (fork16 sub l) W hW.err)
  have hfn : fkN (endV l) rs 16 = forkN sub l := by rw [fkN_end _ _ R16.out, hrs]; rfl
  rw [← hfn] at PT
  have HT : Hid (putB (fkN (endV l) rs 16) = tx (forkTr sub l)) := Lib.hid (by rw [hfn]; rfl)
  rw [HT.out] at PT
  have HTB : Hid ((forkTr sub l).b = forkBelow sub l 16) := Lib.hid rfl
  unfold Grd
  generalize forkTr sub l = XT at *
  have IH := Lib.hid ih
  have SZ := Lib.hid ht
  have LL := Lib.hid hl
  have K0 := Lib.hid (Blk.new w 67 #[.string ⟨#[]⟩, .slice none 0 0])
  have B0 := Lib.hid ((Bl.start w).alloc (.cells #[.string ⟨#[]⟩, .slice none 0 0] 67))
  obtain ⟨E0, hE0⟩ : ∃ z, z = ndC (fkN e0 rs 0) := ⟨_, rfl⟩
  obtain ⟨Z0, hZ0⟩ : ∃ z, z = ndC zeroN := ⟨_, rfl⟩
  have NE0 : Hid (Ndc E0) := Lib.hid (by rw [hE0]; exact .of _)
  have NZ : Hid (Ndc Z0) := Lib.hid (by rw [hZ0]; exact .of _)
  have HE0 := Lib.hid hE0
  have HZ0 := Lib.hid hZ0
  clear hE0 hZ0 hfn hrs h hl ih ht hL
  go_enter Tryz.func103, Tryz.ntmps103
  go_upto_region 1 with (fail)
  generalize w.alloc (.cells #[.string ⟨#[]⟩, .slice none 0 0] 67) = w1 at *
  obtain ⟨r, hr⟩ : ∃ r, r = w.heap.size := ⟨_, rfl⟩
  have HR := Lib.hid hr
  rw [← hr] at K0 B0 ⊢
  clear hr
  obtain ⟨n, hn⟩ : ∃ n, n = w1.heap.size := ⟨_, rfl⟩
  have HNN := Lib.hid hn
  have A1 := Lib.hid (Blk.new w1 51 Z0)
  have X1 := Lib.hid ((Blk.new w1 51 Z0).row (cs := E0))
  have KR : Hid (r ≠ n) := Lib.hid (by have := K0.out.lt; omega)
  have K1 := Lib.hid ((K0.out.alloc (.cells Z0 51)).rowOther (g' := w1.heap.size) (cs := E0) (by rw [← hn]; exact KR.out))
  have B1 := Lib.hid (Bl.setRow (B0.out.alloc (.cells Z0 51)) (g := w1.heap.size) B0.out.2 E0)
  have SZ1 : Hid (n < ((w1.alloc (.cells Z0 51)).setRow n E0).heap.size) := Lib.hid (by rw [hn]; exact X1.out.lt)
  rw [← hn] at A1 X1 K1 B1
  clear hn
  go_upto_region 2 with (first
    | (refine wpList_build_fk (rs := rs) rfl (some 12) rfl rfl E0 HE0.out ?_)
    | (refine wpList_alloc_nd rfl (some 3) rfl rfl Z0 HZ0.out n HNN.out.symm ?_)
    | (refine wpList_store_nd rfl (.tmp 3) (.tmp 12) rfl rfl n E0 rfl rfl 51 Z0 A1.out NE0.out NZ.out ?_))
  generalize (w1.alloc (.cells Z0 51)).setRow n E0 = w2 at *
  have NR : Hid (r < n) := Lib.hid (by have := KR.out; have := K0.out.lt; have := HNN.out; omega)
  have CE := Lib.hid (cutEnd_any (HE.out w2 (by rw [← HR.out]; exact B1.out.1)) LL.out)
  clear A1 K0 B0 HNN KR
  go_wp2_with (go_at_call 134; refine CE.out.mono ?_; rintro e w3 ⟨v3, rfl, hown, hb3⟩; have ES3 := Lib.hid (EsN.of_own hown (Nat.le_refl _)); have X3 := Lib.hid (X1.out.below hb3); have K3 := Lib.hid (K1.out.below hb3); have B3 := Lib.hid (B1.out.call hb3); have W23 := Lib.hid hb3.size; obtain ⟨A3, c3, hv3⟩ := own_shape hown; subst hv3; clear hown hb3)
  have LE : Hid ((l.filter isEnd).length ≤ 1000) := Lib.hid (Nat.le_trans (List.length_filter_le _ _) LL.out)
  have HEV : Hid (endF (l.filter isEnd) = endV l) := Lib.hid rfl
  generalize l.filter isEnd = le at *
  obtain ⟨z, hz⟩ : ∃ z, z = le.length := ⟨_, rfl⟩
  have HZ := Lib.hid hz
  rw [← hz] at LE ⊢
  rw [HE0.out] at X3
  clear hz X1 K1 B1 CE
  go_loopw [16] (fun vi wr => ∃ k : Nat, vi = .int .i64 (k : Int) ∧ k ≤ z ∧ Hid (Blk wr n 51 (ndC (fkN (endF (le.take k)) rs 0))) ∧ Hid (Far (fun i => i = n) w3 wr)) (fun vi _ => z - (intOf vi).toNat)
  case atStart => exact ⟨0, rfl, Nat.zero_le _, X3, Lib.hid (Far.refl _ _)⟩
  case round =>
    clear X3
    obtain ⟨k, rfl, hk, X, FR⟩ := hrel
    by_cases hlt : k < z
    · obtain ⟨x, hx⟩ : ∃ x, le[k]? = some x := ⟨_, List.getElem?_eq_getElem (by rw [← HZ.out]; exact hlt)⟩
      obtain ⟨b, o, c', hv, hbl, d0, d1⟩ := (ES3.out.far FR.out (fun b hb _ e => by have e2 : b = n := e; have := SZ1.out; omega)).toEs.at_ hx
      simp only [Value.slice.injEq] at hv
      obtain ⟨rfl, -, -⟩ := hv
      have STEP := Lib.hid (endF_step hx)
      have i1 : (k : Int) < (z : Int) := by omega
      have n1 : k ≤ 1000 := by have := LE.out; omega
      have wk : IntKind.i64.wrap ((k : Int) + 1) = (k : Int) + 1 := IntWalk.i64_in _ (by omega)
      have HX2 := Lib.hid (Blk.new wr 99 #[.string x.k, .string x.v])
      have X2 := Lib.hid (X.out.alloc (.cells #[.string x.k, .string x.v] 99))
      have F2 := Lib.hid (FR.out.call ((Below.refl _ _).alloc (Nat.le_refl _) (.cells #[.string x.k, .string x.v] 99)))
      obtain ⟨ek, ev⟩ := x
      simp only at d0 d1 STEP HX2 X2 F2
      clear hx
      go_upto_region 5 with (fail)
      generalize wr.alloc (.cells #[.string ek, .string ev] 99) = w5 at *
      generalize wr.heap.size = g at *
      have e1 := HX2.out.cell 1
      have y2 := X2.out.cell 2
      have f2 := X2.out.frozen 2
      simp only [List.getElem?_toArray, List.getElem?_cons_succ, List.getElem?_cons_zero] at e1
      have y3 : (ndC (fkN (endF (le.take k)) rs 0))[2]? = some (.string (endF (le.take k))) := rfl
      rw [y3] at y2
      clear d0 d1 hbl y3
      go_wp2_with fail
      refine ⟨⟨k + 1, rfl, hlt, Lib.hid ?_, Lib.hid (F2.out.setCell (p := ⟨n, 2, none⟩) (fun _ => rfl) _)⟩, by simp [intOf]; omega⟩
      have := X2.out.set 2 (.string ev)
      rw [fkN_val] at this
      rw [STEP.out]
      exact this
    · have i1 : ¬ (k : Int) < (z : Int) := by omega
      obtain rfl : k = z := by omega
      have X4 : Hid (Blk wr n 51 (ndC (fkN (endV l) rs 0))) := Lib.hid (by have := X.out; rwa [HZ.out, List.take_length, HEV.out] at this)
      have K4 := Lib.hid (K3.out.far FR.out (fun e => by have := NR.out; omega))
      have B4 := Lib.hid (Far.bl B3.out FR.out (fun i e => by rw [e]; exact Nat.le_of_lt NR.out))
      have NB : Hid (n < wr.heap.size) := Lib.hid X4.out.lt
      obtain ⟨B, hB⟩ : ∃ B, B = wr.heap.size := ⟨_, rfl⟩
      have HB := Lib.hid hB
      rw [← hB] at NB
      clear X FR K3 B3 ES3 HEV HZ hB
      generalize endV l = V at *
      generalize wr = w4 at *
      go_wp2_with fail
      go_loopw [6, 24] (fun v6 vi wr => ∃ k : Nat, vi = .int .i64 (k : Int) ∧ k ≤ 16 ∧ Hid (Blk wr n 51 (ndC (fkN V rs k))) ∧ Hid (Bw B wr v6 (forkBelow sub l k)) ∧ Hid (Far (fun i => i = n) w4 wr)) (fun _ vi _ => 16 - (intOf vi).toNat)
      case atStart => exact ⟨0, rfl, Nat.zero_le _, X4, Lib.hid (Bw.nil _ _), Lib.hid (Far.refl _ _)⟩
      case round =>
        clear X4
        obtain ⟨k, rfl, hk, X, BW, FR⟩ := hrel
        by_cases hlt : k < 16
        · obtain ⟨A6, c6, hv6⟩ := BW.out.shape
          subst hv6
          have i1 : (k : Int) < 16 := by omega
          have i3 : (0 : Int) ≤ (k : Int) := by omega
          have wk : IntKind.i64.wrap ((k : Int) + 1) = (k : Int) + 1 := IntWalk.i64_in _ (by omega)
          have al : Below wr.heap.size wr (wr.alloc (.cells #[.int .i64 (k : Int)] 3)) := (Below.refl _ _).alloc (Nat.le_refl _) _
          have G5 := Lib.hid (Blk.new wr 3 #[.int .i64 (k : Int)])
          have X5 := Lib.hid (X.out.alloc (.cells #[.int .i64 (k : Int)] 3))
          have BW5 := Lib.hid (BW.out.below al)
          have F5 := Lib.hid (FR.out.call al)
          have RK := Lib.hid (RAT.out k hlt)
          have STB := Lib.hid (forkBelow_step sub l k)
          have GE : Hid (B ≤ wr.heap.size) := Lib.hid (by rw [HB.out]; exact FR.out.size)
          have OLD : Hid (∀ i, (Value.slice A6 (forkBelow sub l k).length c6).ownBlock = some i → i < wr.heap.size) := Lib.hid (fun i hi => by
            obtain ⟨vs, _, h2, _⟩ := BW.out
            exact (h2.lt i hi).2)
          have KLE : Hid ((forkBelow sub l k).length ≤ 16) := Lib.hid (Nat.le_trans (forkBelow_le sub l k) hk)
          have HLT := Lib.hid hlt
          clear X BW FR al hlt hk
          go_upto_region 11 with (fail)
          have GL : Hid (wr.heap.size < (wr.alloc (.cells #[.int .i64 (k : Int)] 3)).heap.size) := Lib.hid G5.out.lt
          generalize wr.alloc (.cells #[.int .i64 (k : Int)] 3) = w5 at *
          generalize wr.heap.size = g at *
          have g0 := G5.out.cell 0
          simp only [List.getElem?_toArray, List.getElem?_cons_zero] at g0
          have bw5 : Hid (Below w.heap.size w w5) := Lib.hid (by
            have := (Far.bl B4.out F5.out (fun i e => by rw [e]; exact Nat.le_of_lt NR.out)).1
            rwa [← HR.out])
          have CA := Lib.hid (cutAt_any GL.out g0 (HE.out w5 bw5.out) LL.out)
          clear g0
          obtain ⟨la, hla⟩ : ∃ la, la = atL k l := ⟨_, rfl⟩
          have HLA := Lib.hid hla
          rw [show l.filter (isAt k) = la from hla.symm] at CA
          rw [← hla] at RK STB
          have LAL : Hid (la.length ≤ 1000) := Lib.hid (by rw [hla]; exact Nat.le_trans (List.length_filter_le _ _) LL.out)
          have LAS : Hid (∀ e ∈ la, 1 ≤ e.k.size) := Lib.hid (fun e he => by rw [hla] at he; exact isAt_pos (List.mem_filter.1 he).2)
          clear hla
          go_upto_region 12 with (go_at_call 134; refine CA.out.mono ?_; rintro e w6 ⟨v6, rfl, hown, hb6⟩; have OW6 := Lib.hid hown; have X6 := Lib.hid (X5.out.below hb6); have G6 := Lib.hid (G5.out.below hb6); have BW6 := Lib.hid (BW5.out.below hb6); have F6 := Lib.hid (F5.out.call hb6); have bw6 := Lib.hid (bw5.out.trans (hb6.mono bw5.out.size)); have SZ6 := Lib.hid (Nat.lt_of_lt_of_le GL.out hb6.size); obtain ⟨Aa, ca, hva⟩ := own_shape hown; subst hva; clear hown hb6)
          clear CA X5 BW5 F5 bw5 G5
          by_cases ha : la = []
          · have l0 : la.length = 0 := by rw [ha]; rfl
            have i4 : ((la.length : Int) == 0) = true := by rw [l0]; rfl
            rw [if_pos ha] at RK STB
            rw [List.append_nil] at STB
            clear ha l0
            go_wp2_with fail
            refine ⟨⟨k + 1, rfl, HLT.out, Lib.hid ?_, Lib.hid ?_, F6⟩, by simp [intOf]; have := HLT.out; omega⟩
            · rw [fkN_skip V rs R16.out k HLT.out RK.out]
              exact X6.out
            · rw [STB.out]
              exact BW6.out
          · have i4 : ((la.length : Int) == 0) = false := by
              have := List.length_pos_iff.2 ha
              simp
              omega
            rw [if_neg ha] at RK STB
            have WOA : Hid (Calls Tryz.prog 133 #[.slice Aa la.length ca, .int .i64 1] w6 fun e w' => ∃ v', e = .returned v' ∧ w'.ownsRow w6.heap.size 99 2 v' (wo 1 la).length (flatE (wo 1 la)) ∧ Below w6.heap.size w6 w') := Lib.hid (woH_any (m := 1) (Es.of_own OW6.out) LAL.out (by decide) LAS.out)
            have IHK : Hid (GrowC (wo 1 la) (sub k)) := Lib.hid (by rw [HLA.out]; exact IH.out k HLT.out (by rw [← HLA.out]; exact ha))
            have STZ : Hid ((tx (sub k)).size ≤ 700) := Lib.hid (SZ.out k HLT.out (by rw [← HLA.out]; exact ha))
            obtain ⟨S, hS⟩ : ∃ S, S = sub k := ⟨_, rfl⟩
            rw [← hS] at RK STB IHK STZ
            obtain ⟨T, hT⟩ : ∃ T, T = tx S := ⟨_, rfl⟩
            have HTT := Lib.hid hT
            rw [← hT] at RK STZ
            clear ha hT hS
            go_upto_region 14 with (first
              | (go_at_call 133; refine WOA.out.mono ?_; rintro e w7 ⟨v7, rfl, hown, hb7⟩; have OW7 := Lib.hid hown; have X7 := Lib.hid (X6.out.below hb7); have G7 := Lib.hid (G6.out.below hb7); have BW7 := Lib.hid (BW6.out.below hb7); have F7 := Lib.hid (F6.out.call hb7); have bw7 := Lib.hid (bw6.out.trans (hb7.mono bw6.out.size)); have SZ7 := Lib.hid (Nat.lt_of_lt_of_le SZ6.out hb7.size); clear hown hb7)
              | (go_at_call 70; refine (IHK.out _ _ (Es.of_own OW7.out) (LA.out _ bw7.out)).mono ?_; rintro e w8 ⟨v8, rfl, ⟨u8, hv8, hts⟩, hb8⟩; rw [← HTT.out] at hv8; subst hv8; have TS8 := Lib.hid (hts.mono (N' := fun b => B ≤ b ∧ ¬ (Value.slice A6 (forkBelow sub l k).length c6).ownBlock = some b) (fun b hb _ => ⟨by have := GE.out; have := SZ7.out; omega, fun e => by have := OLD.out b e; have := SZ7.out; omega⟩)); have X8 := Lib.hid (X7.out.below hb8); have G8 := Lib.hid (G7.out.below hb8); have BW8 := Lib.hid (BW7.out.below hb8); have F8 := Lib.hid (F7.out.call hb8); have bw8 := Lib.hid (bw7.out.trans (hb8.mono bw7.out.size)); obtain ⟨A8, c8, hu8⟩ := hts.shape; subst hu8; clear hts hb8))
            have M9 := Lib.hid (Blk.new w8 67 #[.string T, .slice A8 S.b.length c8])
            have al : Below w8.heap.size w8 (w8.alloc (.cells #[.string T, .slice A8 S.b.length c8] 67)) := (Below.refl _ _).alloc (Nat.le_refl _) _
            have X9 := Lib.hid (X8.out.below al)
            have G9 := Lib.hid (G8.out.below al)
            have BW9 := Lib.hid (BW8.out.below al)
            have F9 := Lib.hid (F8.out.call al)
            have TS9 := Lib.hid (TS8.out.stay al)
            have bw9 := Lib.hid (bw8.out.trans (al.mono bw8.out.size))
            have MN : Hid (¬ w8.heap.size = n) := Lib.hid (by have := X8.out.lt; omega)
            have GN : Hid (¬ g = n) := Lib.hid (by have := GE.out; have := NB.out; omega)
            clear al X6 G6 BW6 F6 bw6 OW6 X7 G7 BW7 F7 bw7 OW7 X8 G8 BW8 F8 bw8 TS8 WOA IHK
            generalize w8.alloc (.cells #[.string T, .slice A8 S.b.length c8] 67) = w9 at *
            generalize w8.heap.size = m at *
            have STT : Hid (∀ W, Far (fun i => i = n) w9 W → W.cell? ⟨g, 0, none⟩ = some (.int .i64 (k : Int)) ∧ W.cell? ⟨m, 0, none⟩ = some (.string T)) := Lib.hid (fun W hW => ⟨by rw [(G9.out.far hW GN.out).cell]; rfl, by rw [(M9.out.far hW MN.out).cell]; rfl⟩)
            have RF : Hid (∀ W, Far (fun i => i = n) w9 W → Calls Tryz.prog 42 #[.string T] W fun e w' => e = .returned (.string (refB T)) ∧ Below W.heap.size W w') := Lib.hid (fun W hW => ref_any T W (by have := STZ.out; omega) (LA.out W (by
              have h1 := Far.bl ⟨bw9.out, bw9.out.size⟩ hW (fun i e => by rw [e]; have := NR.out; have := HR.out; omega)
              exact h1.1)).sha)
            have D0 : Hid (Far (fun i => i = n) w9 w9.drew) := Lib.hid ((Far.refl _ w9).drew)
            have XD : Hid (Blk w9.drew n 51 (ndC (fkN V rs k))) := Lib.hid X9.out
            obtain ⟨R, hRR⟩ : ∃ R, R = refB T := ⟨_, rfl⟩
            rw [← hRR] at RF RK
            clear hRR
            go_region_held3 (fun W => W.cell? ⟨g, 0, none⟩ = some (.int .i64 (k : Int)) ∧ W.cell? ⟨m, 0, none⟩ = some (.string T))
              (first | (with_reducible exact STT.out _ D0.out) | (with_reducible exact STT.out _ F10.out) | (with_reducible exact STT.out _ F11.out))
              (first | (go_at_call 42; with_reducible refine (RF.out _ D0.out).mono ?_; rintro e w10 ⟨rfl, hb10⟩; have F10 := Lib.hid (D0.out.call hb10); have X10 := Lib.hid (XD.out.below hb10); have x10 : w10.cell? ⟨n, 3 + k, none⟩ = some (.string (rf (fkN V rs k) k)) := by { rw [X10.out.cell]; exact ndC_ref _ k HLT.out }; have f10 := X10.out.frozen (3 + k); have F11 := Lib.hid (F10.out.setCell (p := ⟨n, 3 + k, none⟩) (fun _ => rfl) (.string R)); have X11 := Lib.hid (X10.out.set (3 + k) (.string R)); clear hb10))
            have XF : Hid (Blk (w10.setCell ⟨n, 3 + k, none⟩ (.string R)) n 51 (ndC (fkN V rs (k + 1)))) := Lib.hid (by have := X11.out; rwa [fkN_step V rs R16.out k HLT.out R RK.out] at this)
            have BW11 := Lib.hid (BW9.out.far F11.out (fun b hb e => by have e2 : b = n := e; have := NB.out; omega))
            have TS11 := Lib.hid (TS9.out.far F11.out (fun b hb _ e => by have e2 : b = n := e; have := NB.out; have := hb.1; omega))
            have M11 := Lib.hid (M9.out.far F11.out MN.out)
            have FF := Lib.hid (F9.out.trans F11.out (fun _ _ e => e))
            have SB : Hid (B ≤ w9.heap.size) := Lib.hid (by rw [HB.out]; exact F9.out.size)
            have SB2 : Hid (B ≤ (w10.setCell ⟨n, 3 + k, none⟩ (.string R)).heap.size) := Lib.hid (Nat.le_trans SB.out F11.out.size)
            clear x10 f10 F10 X10 D0 XD RF STT X9 BW9 TS9 M9 F9 G9 X11
            generalize w10.setCell ⟨n, 3 + k, none⟩ (.string R) = w11 at *
            have t0 := M11.out.cell 0
            have t1 := M11.out.cell 1
            simp only [List.getElem?_toArray, List.getElem?_cons_succ, List.getElem?_cons_zero] at t0 t1
            obtain ⟨vs, hv1, hv2, hv3⟩ := BW11.out
            have VL := Lib.hid hv1
            have OW := Lib.hid hv2
            have SUBS := Lib.hid hv3
            clear hv1 hv2 hv3 BW11
            have alR : Below w11.heap.size w11 (w11.alloc (.cells #[.string T, .slice A8 S.b.length c8] 67)) := (Below.refl _ _).alloc (Nat.le_refl _) _
            have ALR := Lib.hid alR
            clear alR
            go_wp2_with (at_builtin; refine wpList_append_own (k := 2) (T := 67) (S := 65) elemTree infoTree rfl (by decide) (by decide) rfl _ _ rfl rfl B _ _ (flatT (forkBelow sub l k) vs) w11.heap.size 0 1 1 [.string T, .slice A8 S.b.length c8] rfl rfl (World.ownsRow.alloc OW.out _) rfl (new_cells w11 67 [.string T, .slice A8 S.b.length c8]) (by simp [Value.oneCell']) (by have := KLE.out; omega) (by simp; have := SB2.out; omega) ?_; intro v12 wb hown hgr hblk; have OE := Lib.hid hown; have GR := Lib.hid hgr; have BK := Lib.hid hblk; clear hown hgr hblk)
            have OWN : Hid (∀ i, (Value.slice A6 (forkBelow sub l k).length c6).ownBlock = some i → B ≤ i) := Lib.hid (fun i hi => (OW.out.lt i hi).1)
            refine ⟨⟨k + 1, rfl, HLT.out, Lib.hid ?_, Lib.hid ?_, Lib.hid ?_⟩, by simp [intOf]; have := HLT.out; omega⟩
            · exact (XF.out.alloc _).grown GR.out (fun e => by have := OWN.out n e; have := NB.out; omega)
            · rw [STB.out]
              exact bw_snoc VL.out (fun j t u a b => (SUBS.out j t u a b).stay ALR.out) HTT.out (TS11.out.stay ALR.out) OE.out GR.out BK.out
            · exact ((FF.out.call ALR.out).grown GR.out (fun i hi e => by have := OWN.out i e; have := HB.out; exfalso; omega))
        · have i1 : ¬ (k : Int) < 16 := by omega
          obtain rfl : k = 16 := by omega
          obtain ⟨CS, hCS⟩ : ∃ cs, cs = ndC (fkN V rs 16) := ⟨_, rfl⟩
          have NC : Hid (Ndc CS) := Lib.hid (by rw [hCS]; exact .of _)
          rw [← hCS] at X PT
          have K5 := Lib.hid (K4.out.far FR.out (fun e => by have := NR.out; omega))
          have B5 := Lib.hid (Far.bl B4.out FR.out (fun i e => by rw [e]; exact Nat.le_of_lt NR.out))
          obtain ⟨A6, c6, hv6⟩ := BW.out.shape
          subst hv6
          clear hCS
          go_wp2_with (first
            | (refine wpList_load_nd rfl (some 48) rfl (.tmp 3) rfl n rfl 51 CS X.out NC.out ?_)
            | (go_at_call 61; refine (PT.out _ (LA.out _ (by rw [← HR.out]; exact B5.out.1))).mono ?_; rintro e w8 ⟨rr, rfl, hb8⟩; have K8 := Lib.hid (K5.out.below hb8); have B8 := Lib.hid (B5.out.call hb8); have BW8 := Lib.hid (BW.out.below hb8); have f0 := K8.out.frozen 0; have f1 := K8.out.frozen 1; have k0 := K8.out.cell 0; have k1 := K8.out.cell 1; simp only [List.getElem?_toArray, List.getElem?_cons_succ, List.getElem?_cons_zero] at k0 k1; clear hb8))
          have KF := (K8.out.set 0 (.string (tx XT))).set 1 (.slice A6 (forkBelow sub l 16).length c6)
          have BF := (B8.out.setCell (p := ⟨r, 0, none⟩) (Nat.le_refl _) (.string (tx XT))).setCell (p := ⟨r, 1, none⟩) (Nat.le_refl _) (.slice A6 (forkBelow sub l 16).length c6)
          have FF := ((Far.refl (fun i => i = r) w8).setCell (p := ⟨r, 0, none⟩) (fun _ => rfl) (.string (tx XT))).setCell (p := ⟨r, 1, none⟩) (fun _ => rfl) (.slice A6 (forkBelow sub l 16).length c6)
          have BWF := BW8.out.far FF (fun b hb e => by have e2 : b = r := e; have := NB.out; have := NR.out; omega)
          refine bodyPost_ret (results_tree2 rfl r rfl (.string (tx XT)) (.slice A6 (forkBelow sub l 16).length c6) KF) rfl ?_
          refine ⟨_, rfl, ⟨_, rfl, ?_⟩, by rw [← HR.out]; exact BF.1⟩
          rw [HTB.out]
          exact BWF.ts (fun b hb => by have := NB.out; have := NR.out; have := HR.out; omega)
end Go.Proofs.YtfeonjiiijdibaaGreatDoor
namespace Go.Proofs.YtfeonjiiijdibaaGreatDoor
open Go.RowKit Go.Proofs.Nod Go.Proofs.Can
open Go.Proofs.Mdl hiding e0
set_option linter.unusedVariables false
set_option linter.unusedSimpArgs false
theorem sizeHeld (W : World) : (sizeOf 99).run Tryz.prog W = .ok 2 W := by kernel_rfl
/-- A node of a map's trie is small. -/
theorem tx_size {l : List Ent} {t : Tr} (h : TrOk l t) : (tx t).size ≤ 700 := by
  rw [tx_of h.nd]
  exact (back_read t.n h.nd.ok h.nd.r16).2.1
set_option maxRecDepth 100000 in
set_option maxHeartbeats 4000000 in
theorem grow_step {w : World} {v : Value} {l : List Ent} {n : Nat} (h : Es w v l) (hl : l.length ≤ 1000) (hw : Wf l) (ht : tot l < n + 1) (hL : LaidN w)
    (ih : ∀ m : List Ent, m.length ≤ 1000 → Wf m → tot m < n → GrowC m (grow n m)) : Calls Tryz.prog 70 #[v] w (Grd (grow (n + 1) l) w) := by
  have LA : Hid (∀ W, Below w.heap.size w W → LaidN W) := Lib.hid (fun W h => hL.on h)
  have HE : Hid (∀ W, Below w.heap.size w W → Es W v l) := Lib.hid (fun W hW => h.below hW)
  obtain ⟨A, cap, rfl⟩ := h.shape
  have b0 := (Bl.start w).alloc (.cells #[.string ⟨#[]⟩, .slice none 0 0] 67)
  have k0 := Blk.new w 67 #[.string ⟨#[]⟩, .slice none 0 0]
  have K0 := Lib.hid k0
  have B0 := Lib.hid b0
  rcases l with _ | ⟨x, _ | ⟨y, rr⟩⟩
  · have hb := fun W (hW : LaidN W) => bare_any zeroN rfl W hW
    obtain ⟨Z0, hZ0⟩ : ∃ z, z = ndC zeroN := ⟨_, rfl⟩
    rw [← hZ0] at hb
    have HZ0 := Lib.hid hZ0
    have HB := Lib.hid hb
    have HTX : Hid (putB zeroN = tx (grow (n + 1) [])) := Lib.hid rfl
    have HTB : Hid ((grow (n + 1) []).b = []) := Lib.hid rfl
    rw [HTX.out] at HB
    unfold Grd
    generalize grow (n + 1) [] = XT at *
    clear hb hZ0 b0 k0 ih h
    simp only [List.length_nil]
    go_enter Tryz.func70, Tryz.ntmps70
    go_upto_region 1 with (fail)
    generalize w.alloc (.cells #[.string ⟨#[]⟩, .slice none 0 0] 67) = w1 at *
    obtain ⟨r, hr⟩ : ∃ r, r = w.heap.size := ⟨_, rfl⟩
    have HR := Lib.hid hr
    rw [← hr] at K0 B0 ⊢
    clear hr
    go_wp2_with (first
      | (refine wpList_build_nd0 rfl (some 8) rfl rfl Z0 HZ0.out ?_)
      | (go_at_call 100; refine (HB.out _ (LA.out _ (by rw [← HR.out]; exact B0.out.1))).mono ?_; rintro e w2 ⟨rfl, hb2⟩; have K2 := Lib.hid (K0.out.below hb2); have B2 := Lib.hid (B0.out.call hb2); have f0 := K2.out.frozen 0; have f1 := K2.out.frozen 1; have c0 := K2.out.cell 0; have c1 := K2.out.cell 1; simp only [List.getElem?_toArray, List.getElem?_cons_succ, List.getElem?_cons_zero] at c0 c1; clear hb2))
    have KF := (K2.out.set 0 (.string (tx XT))).set 1 (.slice none 0 0)
    have BF := (B2.out.setCell (p := ⟨r, 0, none⟩) (Nat.le_refl _) (.string (tx XT))).setCell (p := ⟨r, 1, none⟩) (Nat.le_refl _) (.slice none 0 0)
    refine bodyPost_ret (results_tree2 rfl r rfl (.string (tx XT)) (.slice none 0 0) KF) rfl ?_
    exact ⟨_, rfl, ⟨_, rfl, by rw [HTB.out]; exact .nil 0⟩, by rw [← HR.out]; exact BF.1⟩
  · have hb := fun W (hW : LaidN W) => bare_any (leafN x.k x.v) rfl W hW
    have HTX : Hid (putB (leafN x.k x.v) = tx (grow (n + 1) [x])) := Lib.hid rfl
    have HTB : Hid ((grow (n + 1) [x]).b = []) := Lib.hid rfl
    rw [HTX.out] at hb
    unfold Grd
    generalize grow (n + 1) [x] = XT at *
    obtain ⟨b, o, cap', hv, hbl, d0, d1⟩ := h.at_ (k := 0) (e := x) rfl
    simp only [Value.slice.injEq] at hv
    obtain ⟨rfl, -, -⟩ := hv
    simp only [Nat.zero_mul, Nat.add_zero] at d0 d1
    obtain ⟨xk, xv⟩ := x
    simp only at d0 d1 hb
    rw [ndC_leaf] at hb
    have HB := Lib.hid hb
    obtain ⟨r, hr⟩ : ∃ r, r = w.heap.size := ⟨_, rfl⟩
    have HR := Lib.hid hr
    rw [← hr] at K0 B0 hbl
    have HBL := Lib.hid hbl
    have ST : Hid (∀ W, Bl r w W → W.cell? ⟨b, o, none⟩ = some (.string xk) ∧ W.cell? ⟨b, o + 1, none⟩ = some (.string xv)) := Lib.hid (fun W hW => ⟨(hW.1.cell (p := ⟨b, _, none⟩) hbl).trans d0, (hW.1.cell (p := ⟨b, _, none⟩) hbl).trans d1⟩)
    have LB : Hid (∀ W, Bl r w W → LaidN W) := Lib.hid (fun W hW => LA.out W (by rw [← hr]; exact hW.1))
    rw [← hr]
    clear hb b0 k0 ih h d0 d1 HE hbl
    show Calls Tryz.prog 70 #[.slice (some ⟨b, o, none⟩) 1 cap] w _
    have BD := Lib.hid B0.out.drew
    have KD : Hid (Blk (w.alloc (.cells #[.string ⟨#[]⟩, .slice none 0 0] 67)).drew r 67 #[.string ⟨#[]⟩, .slice none 0 0]) := Lib.hid K0.out
    go_enter Tryz.func70, Tryz.ntmps70
    go_upto_region 1 with (fail)
    rw [← HR.out]
    generalize w.alloc (.cells #[.string ⟨#[]⟩, .slice none 0 0] 67) = w1 at *
    go_upto_region 5 with (fail)
    clear hr K0 B0
    go_region_held3 (fun W => W.cell? ⟨b, o, none⟩ = some (.string xk) ∧ W.cell? ⟨b, o + 1, none⟩ = some (.string xv))
      (first | (with_reducible exact ST.out _ BD.out) | (with_reducible exact ST.out _ B4.out) | (with_reducible exact ST.out _ B3.out) | (with_reducible exact ST.out _ B2.out))
      (first | (go_at_call 100; with_reducible refine (HB.out _ (LB.out _ BD.out)).mono ?_; rintro e w2 ⟨rfl, hb2⟩; have K2 := Lib.hid (KD.out.below hb2); have B2 := Lib.hid (BD.out.call hb2); have f0 := K2.out.frozen 0; have f1 := K2.out.frozen 1; have c0 := K2.out.cell 0; have c1 := K2.out.cell 1; simp only [List.getElem?_toArray, List.getElem?_cons_succ, List.getElem?_cons_zero] at c0 c1; have B3 := Lib.hid (B2.out.setCell (p := ⟨r, 0, none⟩) (Nat.le_refl _) (.string (tx XT))); have B4 := Lib.hid (B3.out.setCell (p := ⟨r, 1, none⟩) (Nat.le_refl _) (.slice none 0 0)); clear hb2))
    go_wp2_with fail
    have KF := (K2.out.set 0 (.string (tx XT))).set 1 (.slice none 0 0)
    refine bodyPost_ret (results_tree2 rfl r rfl (.string (tx XT)) (.slice none 0 0) KF) rfl ?_
    exact ⟨_, rfl, ⟨_, rfl, by rw [HTB.out]; exact .nil 0⟩, B4.out.1⟩
  · obtain ⟨z, hz⟩ : ∃ z, (x :: y :: rr).getLast? = some z := ⟨_, List.getLast?_eq_some_getLast (List.cons_ne_nil _ _)⟩
    have l2 : 2 ≤ (x :: y :: rr).length := by simp
    have hx0 : (x :: y :: rr)[0]? = some x := rfl
    have hg := grow_two n l2 hx0 hz
    generalize hl0 : x :: y :: rr = l at *
    have ha : ∀ e ∈ l, com x.k z.k ≤ e.k.size ∧ e.k.data.toList.take (com x.k z.k) = x.k.data.toList.take (com x.k z.k) := by subst hl0; exact all_take hw.up hz (Nat.le_refl _)
    have hxm : x ∈ l := List.mem_of_getElem? hx0
    have hzm : z ∈ l := List.mem_of_getLast? hz
    have hz1 : l[l.length - 1]? = some z := by rw [← List.getLast?_eq_getElem?]; exact hz
    have hk := hw.sz x hxm
    have hkz := hw.sz z hzm
    have hcx := (ha x hxm).1
    have CM : Hid (∀ W, Calls Tryz.prog 101 #[.string x.k, .string z.k] W fun e w' => e = .returned (.int .i64 (com x.k z.k : Nat)) ∧ Below W.heap.size W w') := Lib.hid (fun W => common_any x.k z.k W (by omega) (by omega))
    have IHE : Hid (0 < com x.k z.k → GrowC (wo (com x.k z.k) l) (grow n (wo (com x.k z.k) l)) ∧ (tx (grow n (wo (com x.k z.k) l))).size ≤ 700) := Lib.hid (fun hc => by
      have hlt := tot_wo_lt hc hxm (by omega)
      have hwf := hw.wo (fun e he => (ha e he).2)
      exact ⟨ih _ (by rw [wo_length]; exact hl) hwf (by omega), tx_size (grow_ok n _ hwf (by omega))⟩)
    have IHF : Hid (∀ i, ¬ atL i l = [] → GrowC (wo 1 (atL i l)) (grow n (wo 1 (atL i l))) ∧ (tx (grow n (wo 1 (atL i l)))).size ≤ 700) := Lib.hid (fun i hi => by
      have h1 := tot_at hi
      exact ⟨ih _ (by rw [wo_length]; exact Nat.le_trans (List.length_filter_le _ _) hl) (hw.at_ i) (by omega), tx_size (grow_ok n _ (hw.at_ i) (by omega))⟩)
    have HA := Lib.hid ha
    have HXX := Lib.hid hx0
    obtain ⟨m, hm⟩ : ∃ m, m = l.length := ⟨_, rfl⟩
    obtain ⟨b, o, cap', hv, hbl, d0, d0'⟩ := h.at_ hx0
    simp only [Value.slice.injEq] at hv
    obtain ⟨rfl, -, -⟩ := hv
    obtain ⟨b', o', cap', hv, hbl', d1, d1'⟩ := h.at_ hz1
    simp only [Value.slice.injEq, Option.some.injEq, Addr.mk.injEq] at hv
    obtain ⟨⟨rfl, rfl, -⟩, -, -⟩ := hv
    simp only [Nat.zero_mul, Nat.add_zero] at d0
    have HL := Lib.hid hl
    rw [← hm] at d1 l2 ⊢
    have HM := Lib.hid hm
    obtain ⟨c, hc⟩ : ∃ c, c = com x.k z.k := ⟨_, rfl⟩
    rw [← hc] at CM hg IHE HA hcx
    obtain ⟨r, hr⟩ : ∃ r, r = w.heap.size := ⟨_, rfl⟩
    have HR := Lib.hid hr
    rw [← hr] at K0 B0 hbl LA HE
    obtain ⟨xk, xv⟩ := x
    obtain ⟨zk, zv⟩ := z
    simp only at d0 d1 CM hg hk hcx
    have ST : Hid (∀ W, Below r w W → W.cell? ⟨b, o, none⟩ = some (.string xk) ∧ W.cell? ⟨b, o + (m - 1) * 2, none⟩ = some (.string zk)) := Lib.hid (fun W hW => ⟨(hW.cell (p := ⟨b, _, none⟩) hbl).trans d0, (hW.cell (p := ⟨b, _, none⟩) hbl).trans d1⟩)
    have hml : m ≤ 1000 := by rw [hm]; exact hl
    have e1 : ((m : Int) == 0) = false := by simp; omega
    have e2 : ((m : Int) == 1) = false := by simp; omega
    have M1 : Hid (0 < m) := Lib.hid (by omega)
    have M2 : Hid (m = m - 1 + 1) := Lib.hid (by omega)
    have M3 : Hid (m ≤ 1000) := Lib.hid hml
    have M4 : Hid (m - 1 < m) := Lib.hid (by omega)
    have hcc : c ≤ 12 := by omega
    clear hm hc ha hxm hzm hz hz1 hx0 ih h b0 k0 hl0 hw ht hL d0 d0' d1 d1' hbl hbl' hk hkz hcx hr hl
    by_cases hc0 : 0 < c
    · rw [if_pos hc0] at hg
      obtain ⟨I1, I2⟩ := IHE.out hc0
      have EX0 : ∀ W, Below r w W → Calls Tryz.prog 102 #[.slice (some ⟨b, o, none⟩) m cap, .int .i64 (c : Int)] W (Grd (extTr (xk.extract 0 c) (grow n (wo c l))) W) := fun W hW => by
        have := extend_any (HE.out W hW) HXX.out HL.out (c := c) (by omega) (fun e he => (HA.out e he).1) I1 I2 (LA.out W hW)
        rwa [← HM.out] at this
      rw [← hg] at EX0
      have EX := Lib.hid EX0
      generalize grow (n + 1) l = XT at *
      have j1 : (0 : Int) < (c : Int) := by omega
      clear hg hc0 EX0 I1 I2 IHE IHF HA HXX HM HL
      unfold Grd at EX ⊢
      rw [← HR.out]
      go_enter Tryz.func70, Tryz.ntmps70
      go_upto_region 1 with (fail)
      rw [← HR.out]
      generalize w.alloc (.cells #[.string ⟨#[]⟩, .slice none 0 0] 67) = w1 at *
      go_upto_region 6 with (fail)
      refine Segs.wp_region_perm Segs.Hist [(0, false), (1, false), (2, false), (3, false), (4, false), (5, false), (6, false), (7, false), (8, false), (9, false), (10, false), (11, false), (12, false)] Segs.Hist.refl Segs.Hist.trans (by kernel_rfl) (by kernel_rfl) rfl (by kernel_rfl) (Segs.WP.out ?_)
      have B2 := Lib.hid B0.out.drew
      have K2 : Hid (Blk w1.drew r 67 #[.string ⟨#[]⟩, .slice none 0 0]) := Lib.hid K0.out
      generalize w1.drew = W1 at B2 K2 ⊢
      refine Segs.WP.val 0 rfl (some 22) (.slice (some ⟨b, o, none⟩) m cap) rfl (by kernel_rfl) (fun WW h => by kernel_rfl) ?_
      simp only [Act.put, List.setIfInBounds_toArray, List.set_cons_zero, List.set_cons_succ]
      refine Segs.WP.val 1 rfl (some 23) (.pointer (some ⟨b, o, none⟩)) rfl (by kernel_rfl) (fun WW h => run_indexK elemHeld sizeHeld rfl b o m cap 0 (by kernel_rfl) (by kernel_rfl) M1.out) ?_
      simp only [Act.put, List.setIfInBounds_toArray, List.set_cons_zero, List.set_cons_succ]
      refine Segs.WP.val 2 rfl (some 24) (.pointer (some ⟨b, o, none⟩)) rfl (by kernel_rfl) (fun WW h => by kernel_rfl) ?_
      simp only [Act.put, List.setIfInBounds_toArray, List.set_cons_zero, List.set_cons_succ]
      refine Segs.WP.val 3 rfl (some 25) (.string xk) rfl (by kernel_rfl) (fun WW h => Segs.run_cell 9 (.tmp 24) rfl b o (by kernel_rfl) _ (isAggStr WW) (ST.out _ (B2.out.call h).1).1) ?_
      simp only [Act.put, List.setIfInBounds_toArray, List.set_cons_zero, List.set_cons_succ]
      refine Segs.WP.val 4 rfl (some 26) (.slice (some ⟨b, o, none⟩) m cap) rfl (by kernel_rfl) (fun WW h => by kernel_rfl) ?_
      simp only [Act.put, List.setIfInBounds_toArray, List.set_cons_zero, List.set_cons_succ]
      refine Segs.WP.val 5 rfl (some 27) (.slice (some ⟨b, o, none⟩) m cap) rfl (by kernel_rfl) (fun WW h => by kernel_rfl) ?_
      simp only [Act.put, List.setIfInBounds_toArray, List.set_cons_zero, List.set_cons_succ]
      refine Segs.WP.val 6 rfl (some 28) (.int .i64 (m : Int)) rfl (by kernel_rfl) (fun WW h => run_lens rfl (some ⟨b, o, none⟩) m cap (by kernel_rfl) elemHeld) ?_
      simp only [Act.put, List.setIfInBounds_toArray, List.set_cons_zero, List.set_cons_succ]
      refine Segs.WP.val 7 rfl (some 29) (.int .i64 ((m - 1 : Nat) : Int)) rfl (by kernel_rfl) (fun WW h => run_pred rfl m (m - 1) (by kernel_rfl) (by kernel_rfl) M2.out M3.out) ?_
      simp only [Act.put, List.setIfInBounds_toArray, List.set_cons_zero, List.set_cons_succ]
      refine Segs.WP.val 8 rfl (some 30) (.pointer (some ⟨b, o + (m - 1) * 2, none⟩)) rfl (by kernel_rfl) (fun WW h => run_indexK elemHeld sizeHeld rfl b o m cap (m - 1) (by kernel_rfl) (by kernel_rfl) M4.out) ?_
      simp only [Act.put, List.setIfInBounds_toArray, List.set_cons_zero, List.set_cons_succ]
      refine Segs.WP.val 9 rfl (some 31) (.pointer (some ⟨b, o + (m - 1) * 2, none⟩)) rfl (by kernel_rfl) (fun WW h => by kernel_rfl) ?_
      simp only [Act.put, List.setIfInBounds_toArray, List.set_cons_zero, List.set_cons_succ]
      refine Segs.WP.val 10 rfl (some 32) (.string zk) rfl (by kernel_rfl) (fun WW h => Segs.run_cell 9 (.tmp 31) rfl b (o + (m - 1) * 2) (by kernel_rfl) _ (isAggStr WW) (ST.out _ (B2.out.call h).1).2) ?_
      simp only [Act.put, List.setIfInBounds_toArray, List.set_cons_zero, List.set_cons_succ]
      refine Segs.WP.call 11 rfl (some 33) 101 #[.string xk, .string zk] (.int .i64 (c : Int)) rfl (by kernel_rfl) (fun WW => by kernel_rfl) (fun WW h => CM.out WW) ?_
      simp only [Act.put, List.setIfInBounds_toArray, List.set_cons_zero, List.set_cons_succ]
      refine Segs.WP.val 12 rfl (some 3) (.int .i64 (c : Int)) rfl (by kernel_rfl) (fun WW h => by kernel_rfl) ?_
      simp only [Act.put, List.setIfInBounds_toArray, List.set_cons_zero, List.set_cons_succ]
      refine Segs.WP.fin (fun w3 hx => ?_)
      have BQ := Lib.hid (B2.out.call hx)
      have KQ := Lib.hid (K2.out.below hx)
      clear hx
      go_wp2_with (first | (go_at_call 102; refine (EX.out _ BQ.out.1).mono ?_; rintro e w2 ⟨v2, rfl, ⟨u2, hv2, hts⟩, hb2⟩; have TS2 := Lib.hid hts; obtain ⟨A2, c2, hu2⟩ := hts.shape; subst hv2; subst hu2; have K2 := Lib.hid (KQ.out.below hb2); have B2 := Lib.hid (BQ.out.call hb2); have WQ := Lib.hid BQ.out.2; have RQ := Lib.hid KQ.out.lt; have f0 := K2.out.frozen 0; have f1 := K2.out.frozen 1; have k0 := K2.out.cell 0; have k1 := K2.out.cell 1; simp only [List.getElem?_toArray, List.getElem?_cons_succ, List.getElem?_cons_zero] at k0 k1; clear hts hb2))
      have KF := (K2.out.set 0 (.string (tx XT))).set 1 (.slice A2 XT.b.length c2)
      have BF := (B2.out.setCell (p := ⟨r, 0, none⟩) (Nat.le_refl _) (.string (tx XT))).setCell (p := ⟨r, 1, none⟩) (Nat.le_refl _) (.slice A2 XT.b.length c2)
      have FF := ((Far.refl (fun i => i = r) w2).setCell (p := ⟨r, 0, none⟩) (fun _ => rfl) (.string (tx XT))).setCell (p := ⟨r, 1, none⟩) (fun _ => rfl) (.slice A2 XT.b.length c2)
      have TSF := TS2.out.far FF (fun b hb _ e => by have e2 : b = r := e; have := RQ.out; omega)
      refine bodyPost_ret (results_tree2 rfl r rfl (.string (tx XT)) (.slice A2 XT.b.length c2) KF) rfl ?_
      exact ⟨_, rfl, ⟨_, rfl, TSF.mono (fun b hb _ => by have := RQ.out; omega)⟩, BF.1⟩
    · rw [if_neg hc0] at hg
      have EX0 : ∀ W, Below r w W → Calls Tryz.prog 103 #[.slice (some ⟨b, o, none⟩) m cap] W (Grd (forkTr (fun i => grow n (wo 1 (atL i l))) l) W) := fun W hW => by
        have := fork_any (sub := fun i => grow n (wo 1 (atL i l))) (HE.out W hW) HL.out (fun i _ hi => (IHF.out i hi).1) (fun i _ hi => (IHF.out i hi).2) (LA.out W hW)
        rwa [← HM.out] at this
      rw [← hg] at EX0
      have EX := Lib.hid EX0
      generalize grow (n + 1) l = XT at *
      have j1 : ¬ (0 : Int) < (c : Int) := by omega
      clear hg hc0 EX0 IHE IHF HA HXX HM HL
      unfold Grd at EX ⊢
      rw [← HR.out]
      go_enter Tryz.func70, Tryz.ntmps70
      go_upto_region 1 with (fail)
      rw [← HR.out]
      generalize w.alloc (.cells #[.string ⟨#[]⟩, .slice none 0 0] 67) = w1 at *
      go_upto_region 6 with (fail)
      refine Segs.wp_region_perm Segs.Hist [(0, false), (1, false), (2, false), (3, false), (4, false), (5, false), (6, false), (7, false), (8, false), (9, false), (10, false), (11, false), (12, false)] Segs.Hist.refl Segs.Hist.trans (by kernel_rfl) (by kernel_rfl) rfl (by kernel_rfl) (Segs.WP.out ?_)
      have B2 := Lib.hid B0.out.drew
      have K2 : Hid (Blk w1.drew r 67 #[.string ⟨#[]⟩, .slice none 0 0]) := Lib.hid K0.out
      generalize w1.drew = W1 at B2 K2 ⊢
      refine Segs.WP.val 0 rfl (some 22) (.slice (some ⟨b, o, none⟩) m cap) rfl (by kernel_rfl) (fun WW h => by kernel_rfl) ?_
      simp only [Act.put, List.setIfInBounds_toArray, List.set_cons_zero, List.set_cons_succ]
      refine Segs.WP.val 1 rfl (some 23) (.pointer (some ⟨b, o, none⟩)) rfl (by kernel_rfl) (fun WW h => run_indexK elemHeld sizeHeld rfl b o m cap 0 (by kernel_rfl) (by kernel_rfl) M1.out) ?_
      simp only [Act.put, List.setIfInBounds_toArray, List.set_cons_zero, List.set_cons_succ]
      refine Segs.WP.val 2 rfl (some 24) (.pointer (some ⟨b, o, none⟩)) rfl (by kernel_rfl) (fun WW h => by kernel_rfl) ?_
      simp only [Act.put, List.setIfInBounds_toArray, List.set_cons_zero, List.set_cons_succ]
      refine Segs.WP.val 3 rfl (some 25) (.string xk) rfl (by kernel_rfl) (fun WW h => Segs.run_cell 9 (.tmp 24) rfl b o (by kernel_rfl) _ (isAggStr WW) (ST.out _ (B2.out.call h).1).1) ?_
      simp only [Act.put, List.setIfInBounds_toArray, List.set_cons_zero, List.set_cons_succ]
      refine Segs.WP.val 4 rfl (some 26) (.slice (some ⟨b, o, none⟩) m cap) rfl (by kernel_rfl) (fun WW h => by kernel_rfl) ?_
      simp only [Act.put, List.setIfInBounds_toArray, List.set_cons_zero, List.set_cons_succ]
      refine Segs.WP.val 5 rfl (some 27) (.slice (some ⟨b, o, none⟩) m cap) rfl (by kernel_rfl) (fun WW h => by kernel_rfl) ?_
      simp only [Act.put, List.setIfInBounds_toArray, List.set_cons_zero, List.set_cons_succ]
      refine Segs.WP.val 6 rfl (some 28) (.int .i64 (m : Int)) rfl (by kernel_rfl) (fun WW h => run_lens rfl (some ⟨b, o, none⟩) m cap (by kernel_rfl) elemHeld) ?_
      simp only [Act.put, List.setIfInBounds_toArray, List.set_cons_zero, List.set_cons_succ]
      refine Segs.WP.val 7 rfl (some 29) (.int .i64 ((m - 1 : Nat) : Int)) rfl (by kernel_rfl) (fun WW h => run_pred rfl m (m - 1) (by kernel_rfl) (by kernel_rfl) M2.out M3.out) ?_
      simp only [Act.put, List.setIfInBounds_toArray, List.set_cons_zero, List.set_cons_succ]
      refine Segs.WP.val 8 rfl (some 30) (.pointer (some ⟨b, o + (m - 1) * 2, none⟩)) rfl (by kernel_rfl) (fun WW h => run_indexK elemHeld sizeHeld rfl b o m cap (m - 1) (by kernel_rfl) (by kernel_rfl) M4.out) ?_
      simp only [Act.put, List.setIfInBounds_toArray, List.set_cons_zero, List.set_cons_succ]
      refine Segs.WP.val 9 rfl (some 31) (.pointer (some ⟨b, o + (m - 1) * 2, none⟩)) rfl (by kernel_rfl) (fun WW h => by kernel_rfl) ?_
      simp only [Act.put, List.setIfInBounds_toArray, List.set_cons_zero, List.set_cons_succ]
      refine Segs.WP.val 10 rfl (some 32) (.string zk) rfl (by kernel_rfl) (fun WW h => Segs.run_cell 9 (.tmp 31) rfl b (o + (m - 1) * 2) (by kernel_rfl) _ (isAggStr WW) (ST.out _ (B2.out.call h).1).2) ?_
      simp only [Act.put, List.setIfInBounds_toArray, List.set_cons_zero, List.set_cons_succ]
      refine Segs.WP.call 11 rfl (some 33) 101 #[.string xk, .string zk] (.int .i64 (c : Int)) rfl (by kernel_rfl) (fun WW => by kernel_rfl) (fun WW h => CM.out WW) ?_
      simp only [Act.put, List.setIfInBounds_toArray, List.set_cons_zero, List.set_cons_succ]
      refine Segs.WP.val 12 rfl (some 3) (.int .i64 (c : Int)) rfl (by kernel_rfl) (fun WW h => by kernel_rfl) ?_
      simp only [Act.put, List.setIfInBounds_toArray, List.set_cons_zero, List.set_cons_succ]
      refine Segs.WP.fin (fun w3 hx => ?_)
      have BQ := Lib.hid (B2.out.call hx)
      have KQ := Lib.hid (K2.out.below hx)
      clear hx
      go_wp2_with (first | (go_at_call 103; refine (EX.out _ BQ.out.1).mono ?_; rintro e w2 ⟨v2, rfl, ⟨u2, hv2, hts⟩, hb2⟩; have TS2 := Lib.hid hts; obtain ⟨A2, c2, hu2⟩ := hts.shape; subst hv2; subst hu2; have K2 := Lib.hid (KQ.out.below hb2); have B2 := Lib.hid (BQ.out.call hb2); have WQ := Lib.hid BQ.out.2; have RQ := Lib.hid KQ.out.lt; have f0 := K2.out.frozen 0; have f1 := K2.out.frozen 1; have k0 := K2.out.cell 0; have k1 := K2.out.cell 1; simp only [List.getElem?_toArray, List.getElem?_cons_succ, List.getElem?_cons_zero] at k0 k1; clear hts hb2))
      have KF := (K2.out.set 0 (.string (tx XT))).set 1 (.slice A2 XT.b.length c2)
      have BF := (B2.out.setCell (p := ⟨r, 0, none⟩) (Nat.le_refl _) (.string (tx XT))).setCell (p := ⟨r, 1, none⟩) (Nat.le_refl _) (.slice A2 XT.b.length c2)
      have FF := ((Far.refl (fun i => i = r) w2).setCell (p := ⟨r, 0, none⟩) (fun _ => rfl) (.string (tx XT))).setCell (p := ⟨r, 1, none⟩) (fun _ => rfl) (.slice A2 XT.b.length c2)
      have TSF := TS2.out.far FF (fun b hb _ e => by have e2 : b = r := e; have := RQ.out; omega)
      refine bodyPost_ret (results_tree2 rfl r rfl (.string (tx XT)) (.slice A2 XT.b.length c2) KF) rfl ?_
      exact ⟨_, rfl, ⟨_, rfl, TSF.mono (fun b hb _ => by have := RQ.out; omega)⟩, BF.1⟩
/-- canon.grow. -/
theorem grow_any : ∀ (n : Nat) (l : List Ent), l.length ≤ 1000 → Wf l → tot l < n → GrowC l (grow n l)
  | 0, l, _, _, h => by omega
  | n + 1, l, hl, hw, ht => fun W v h hL => grow_step h hl hw ht hL (grow_any n)
end Go.Proofs.YtfeonjiiijdibaaGreatDoor
namespace Go.Proofs.YtfeonjiiijdibaaGreatDoor
open Go.RowKit Go.Proofs.Nod Go.Proofs.Can
open Go.Proofs.Mdl hiding e0
set_option linter.unusedVariables false
set_option linter.unusedSimpArgs false
theorem paths_step {l : List Ent} {k : Nat} {e : Ent} (h : l[k]? = some e) : pathsL (l.take (k + 1)) = pathsL (l.take k) ++ [⟨Nib.bs (Nib.path e.k.data.toList), e.v⟩] := by
  unfold pathsL
  rw [List.take_add_one, h, List.map_append, Option.toList_some]
  rfl
theorem paths_length (l : List Ent) : (pathsL l).length = l.length := List.length_map _
/-- A map's trie. -/
def treeM (l : List Ent) : Tr := treeP (pathsL l)
theorem treeM_ok {l : List Ent} (h : Mdl.Good l) : TrOk (pathsL l) (treeM l) := tree_ok (Wf.paths h)
theorem results_tree2e {fn : Func} (h : fn.results = #[.cell 2 67, .tmp 3]) {tmps : Array Value} {w : World} (g : Nat) (hs : tmps[2]?.getD undef = .pointer (some ⟨g, 0, none⟩)) (x y z : Value) (hz : tmps[3]?.getD undef = z) (hb : Blk w g 67 #[x, y]) : (results fn tmps).run Tryz.prog w = .ok (.tuple #[.agg #[x, y], z]) w := by
  have h0 := hb.cell 0
  have h1 := hb.cell 1
  simp only [List.getElem?_toArray, List.getElem?_cons_succ, List.getElem?_cons_zero] at h0 h1
  simp [results, h, hs, hz, go_sem, h0, h1]
set_option maxRecDepth 100000 in
set_option maxHeartbeats 2000000 in
theorem whole_far {w : World} {v : Value} {l : List Ent} (h : Es w v l) (hl : l.length ≤ 9223372036854775807) (h0 : ¬ checkN l = 0) :
    Calls Tryz.prog 40 #[v] w fun e w' => e = .returned (.tuple #[.agg #[.string ⟨#[]⟩, .slice none 0 0], .int .i64 (checkN l)]) ∧ Below w.heap.size w w' := by
  have b0 := (Bl.start w).alloc (.cells #[.string ⟨#[]⟩, .slice none 0 0] 67)
  have CK := Lib.hid (check_far (h.below b0.1) hl)
  have K0 := Lib.hid (Blk.new w 67 #[.string ⟨#[]⟩, .slice none 0 0])
  have B0 := Lib.hid b0
  obtain ⟨A, c, rfl⟩ := h.shape
  obtain ⟨r, hr⟩ : ∃ r, r = w.heap.size := ⟨_, rfl⟩
  have HR := Lib.hid hr
  rw [← hr] at K0 B0
  have e1 : (checkN l != 0) = true := by simpa using h0
  obtain ⟨q, hq⟩ : ∃ q, q = checkN l := ⟨_, rfl⟩
  rw [← hq] at CK e1 ⊢
  clear b0 h h0 hq hl
  rw [← hr]
  clear hr
  go_enter Tryz.func40, Tryz.ntmps40
  go_upto_region 1 with (fail)
  rw [← HR.out]
  generalize w.alloc (.cells #[.string ⟨#[]⟩, .slice none 0 0] 67) = w1 at *
  go_wp2_with (first | (go_at_call 17; refine CK.out.mono ?_; rintro e w2 ⟨rfl, hb2⟩; have K2 := Lib.hid (K0.out.below hb2); have B2 := Lib.hid (B0.out.call hb2); have f0 := K2.out.frozen 0; have f1 := K2.out.frozen 1; have k0 := K2.out.cell 0; have k1 := K2.out.cell 1; simp only [List.getElem?_toArray, List.getElem?_cons_succ, List.getElem?_cons_zero] at k0 k1; clear hb2))
  have KF := (K2.out.set 0 (.string ⟨#[]⟩)).set 1 (.slice none 0 0)
  have BF := (B2.out.setCell (p := ⟨r, 0, none⟩) (Nat.le_refl _) (.string ⟨#[]⟩)).setCell (p := ⟨r, 1, none⟩) (Nat.le_refl _) (.slice none 0 0)
  refine bodyPost_ret (results_tree2e rfl r rfl (.string ⟨#[]⟩) (.slice none 0 0) _ rfl KF) rfl ?_
  exact ⟨rfl, BF.1⟩
theorem whole_err {w : World} {v : Value} {l : List Ent} (h : Es w v l) (hl : l.length ≤ 1000) (h0 : ¬ checkN l = 0) :
    Calls Tryz.prog 40 #[v] w fun e w' => e = .returned (.tuple #[.agg #[.string ⟨#[]⟩, .slice none 0 0], .int .i64 (checkN l)]) ∧ Below w.heap.size w w' := whole_far h (by omega) h0
set_option maxRecDepth 100000 in
set_option maxHeartbeats 4000000 in
theorem whole_ok {w : World} {v : Value} {l : List Ent} (h : Es w v l) (hg : Mdl.Good l) (hL : LaidN w) :
    Calls Tryz.prog 40 #[v] w fun e w' => ∃ v', e = .returned (.tuple #[v', .int .i64 0]) ∧ Tv (fun b => w.heap.size ≤ b) w' v' (treeM l) ∧ Below w.heap.size w w' := by
  have hl : l.length ≤ 1000 := by have := hg.few; omega
  have b0 := (Bl.start w).alloc (.cells #[.string ⟨#[]⟩, .slice none 0 0] 67)
  have CK := Lib.hid (check_any (h.below b0.1) hl)
  rw [good_iff.2 hg] at CK
  have K0 := Lib.hid (Blk.new w 67 #[.string ⟨#[]⟩, .slice none 0 0])
  have B0 := Lib.hid b0
  have HE : Hid (∀ W, Below w.heap.size w W → Es W v l) := Lib.hid (fun W hW => h.below hW)
  obtain ⟨A, c, rfl⟩ := h.shape
  have GR : Hid (∀ W u, Below w.heap.size w W → Es W u (pathsL l) → Calls Tryz.prog 70 #[u] W (Grd (treeM l) W)) := Lib.hid (fun W u hW hu => grow_any _ (pathsL l) (by rw [paths_length]; exact hl) (Wf.paths hg) (Nat.lt_succ_self _) W u hu (hL.on hW))
  have KS : Hid (∀ e ∈ l, e.k.size ≤ 6) := Lib.hid (fun e he => by
    have := hg.ok e he
    unfold entOk keyOk at this
    simp only [Bool.and_eq_true, decide_eq_true_eq] at this
    omega)
  generalize treeM l = XT at *
  unfold Grd at GR
  obtain ⟨r, hr⟩ : ∃ r, r = w.heap.size := ⟨_, rfl⟩
  have HR := Lib.hid hr
  rw [← hr] at K0 B0 HE GR
  obtain ⟨z, hz⟩ : ∃ z, z = l.length := ⟨_, rfl⟩
  have HZ := Lib.hid hz
  rw [← hz] at hl CK HE
  rw [← hz, ← hr]
  clear b0 h hg hL hr hz
  go_enter Tryz.func40, Tryz.ntmps40
  go_upto_region 1 with (fail)
  rw [← HR.out]
  generalize w.alloc (.cells #[.string ⟨#[]⟩, .slice none 0 0] 67) = w1 at *
  go_wp2_with (first | (go_at_call 17; refine CK.out.mono ?_; rintro e w2 ⟨rfl, hb2⟩; have K2 := Lib.hid (K0.out.below hb2); have B2 := Lib.hid (B0.out.call hb2); clear hb2))
  have RW : Hid (r < w2.heap.size) := Lib.hid K2.out.lt
  clear K0 B0 CK
  go_loopw [5, 16] (fun v5 vi wr => ∃ k : Nat, vi = .int .i64 (k : Int) ∧ k ≤ z ∧ Hid (wr.ownsRow w2.heap.size 99 2 v5 (pathsL (l.take k)).length (flatE (pathsL (l.take k)))) ∧ Hid (Bl w2.heap.size w2 wr)) (fun _ vi _ => z - (intOf vi).toNat)
  case atStart => exact ⟨0, rfl, Nat.zero_le _, Lib.hid ⟨rfl, .inl ⟨rfl, rfl⟩⟩, Lib.hid (Bl.start w2)⟩
  case round =>
    obtain ⟨k, rfl, hk, OD, HB⟩ := hrel
    by_cases hlt : k < z
    · obtain ⟨x, hx⟩ : ∃ x, l[k]? = some x := ⟨_, List.getElem?_eq_getElem (by rw [← HZ.out]; exact hlt)⟩
      obtain ⟨b, o, c', hv, hbl, d0, d1⟩ := (HE.out wr (B2.out.1.trans (HB.out.1.mono B2.out.2))).at_ hx
      simp only [Value.slice.injEq] at hv
      obtain ⟨rfl, -, -⟩ := hv
      have STEP := Lib.hid (paths_step hx)
      have BA := Lib.hid (HB.out.alloc (.cells #[.string x.k, .string x.v] 61))
      have BX := Lib.hid (Blk.new wr 61 #[.string x.k, .string x.v])
      have OD1 := Lib.hid (World.ownsRow.alloc OD.out (.cells #[.string x.k, .string x.v] 61))
      have LD : Hid ((pathsL (l.take k)).length ≤ 1000) := Lib.hid (by
        rw [paths_length, List.length_take]
        omega)
      have PA := Lib.hid (fun W => path_any x.k W (by have := KS.out x (List.mem_of_getElem? hx); omega))
      have i1 : (k : Int) < (z : Int) := by omega
      have wk : IntKind.i64.wrap ((k : Int) + 1) = (k : Int) + 1 := IntWalk.i64_in _ (by omega)
      obtain ⟨ek, ev⟩ := x
      simp only at d0 d1 STEP BX BA OD1 PA
      generalize Nib.bs (Nib.path ek.data.toList) = ep at *
      obtain ⟨A5, c5, hv5⟩ := own_shape OD1.out
      subst hv5
      have OB0 : Hid (∀ i, (Value.slice A5 (pathsL (l.take k)).length c5).ownBlock = some i → i < wr.heap.size) := Lib.hid (fun i hi => (OD.out.lt i hi).2)
      clear hx
      go_upto_region 8 with (fail)
      have h1 := Lib.hid (Nat.lt_of_lt_of_eq (Nat.lt_succ_self wr.heap.size) (World.size_alloc wr (.cells #[.string ek, .string ev] 61)).symm)
      generalize wr.alloc (.cells #[.string ek, .string ev] 61) = w3 at *
      generalize wr.heap.size = g at *
      have OB : Hid (∀ i, (Value.slice A5 (pathsL (l.take k)).length c5).ownBlock = some i → i ≠ g) := Lib.hid (fun i hi e => by have := OB0.out i hi; omega)
      have ST : Hid (∀ W, Far (fun i => i ≠ g) w3 W → W.cell? ⟨g, 0, none⟩ = some (.string ek) ∧ W.cell? ⟨g, 1, none⟩ = some (.string ev)) := Lib.hid (fun W hW => ⟨by rw [(BX.out.far hW (fun h => h rfl)).cell]; rfl, by rw [(BX.out.far hW (fun h => h rfl)).cell]; rfl⟩)
      have E0 : Hid (Far (fun i => i ≠ g) w3 w3.drew) := Lib.hid (Far.refl _ _).drew
      have OM : Hid (∀ y ∈ [Value.string ep, .string ev], y.oneCell' = true) := Lib.hid (by simp [Value.oneCell'])
      have N1 : Hid ((pathsL (l.take k)).length + 1 ≤ 1000000) := Lib.hid (by have := LD.out; omega)
      have OD2 : Hid (w3.drew.ownsRow w2.heap.size 99 2 (.slice A5 (pathsL (l.take k)).length c5) (pathsL (l.take k)).length (flatE (pathsL (l.take k)))) := Lib.hid (own_drewN OD1.out 1)
      have BA2 : Hid (Bl w2.heap.size w2 w3.drew) := Lib.hid (BA.out.drewN 1)
      clear d0 d1 hbl OD HB
      go_region_held3 (fun W => W.cell? ⟨g, 0, none⟩ = some (.string ek) ∧ W.cell? ⟨g, 1, none⟩ = some (.string ev))
        (first | (with_reducible exact ST.out _ E0.out) | (with_reducible exact ST.out _ E6.out) | (with_reducible exact ST.out _ E7.out) | (with_reducible exact ST.out _ E8.out))
        (first
          | (go_at_call 69; with_reducible refine (PA.out _).mono ?_; rintro e w6 ⟨rfl, hb6⟩; have E6 := Lib.hid (E0.out.call hb6); have OD6 := Lib.hid (own_below OD2.out hb6); have BA6 := Lib.hid (BA2.out.call hb6); have OD7 := Lib.hid (World.ownsRow.alloc OD6.out (.cells #[.string ep, .string ev] 99)); have BA7 := Lib.hid (BA6.out.alloc (.cells #[.string ep, .string ev] 99)); have E7 := Lib.hid (E6.out.alloc (.cells #[.string ep, .string ev] 99)); have NC7 := Lib.hid (new_cells w6 99 [.string ep, .string ev]); clear hb6)
          | (refine step_append_own (k := 2) (T := 99) (S := 97) elemHeld infoHeld rfl (by decide) (by decide) rfl (.tmp 20) (.tmp 27) rfl rfl w2.heap.size _ _ (flatE (pathsL (l.take k))) w6.heap.size 0 1 1 [.string ep, .string ev] rfl rfl OD7.out rfl NC7.out OM.out N1.out BA7.out.2 ?_; intro v6 wb hown hgr _; have OE := Lib.hid hown; have BE := Lib.hid (BA7.out.grownRow OD7.out (Nat.le_refl _) hgr); have E8 := Lib.hid (E7.out.grown hgr (fun i _ hi => OB.out i hi)); clear hown hgr))
      have OE2 : Hid (wb.ownsRow w2.heap.size 99 2 v6 (pathsL (l.take k) ++ [(⟨ep, ev⟩ : Ent)]).length (flatE (pathsL (l.take k) ++ [(⟨ep, ev⟩ : Ent)]))) := Lib.hid (by rw [flatE_append, List.length_append]; exact OE.out)
      clear OE OD7 NC7 OM ST E6 E7 E8 OD6 OD1 OD2
      go_wp2_with fail
      refine ⟨⟨k + 1, rfl, hlt, Lib.hid ?_, BE⟩, by simp [intOf]; omega⟩
      rw [STEP.out]
      exact OE2.out
    · have i1 : ¬ (k : Int) < (z : Int) := by omega
      obtain rfl : k = z := by omega
      have hw := OD.out
      rw [HZ.out, List.take_length] at hw
      obtain ⟨A5, c5, hv5⟩ := own_shape hw
      subst hv5
      have EP := Lib.hid (Es.of_own hw)
      have B3 := Lib.hid (B2.out.call HB.out.1)
      have K3 := Lib.hid (K2.out.below HB.out.1)
      have RQ : Hid (r < wr.heap.size) := Lib.hid K3.out.lt
      clear hw OD HB
      go_wp2_with (first
        | (go_at_call 70; refine (GR.out _ _ B3.out.1 EP.out).mono ?_; rintro e w4 ⟨v4, rfl, ⟨u4, hv4, hts⟩, hb4⟩; have TS4 := Lib.hid hts; obtain ⟨A4, c4, hu4⟩ := hts.shape; subst hv4; subst hu4; have K4 := Lib.hid (K3.out.below hb4); have B4 := Lib.hid (B3.out.call hb4); have f0 := K4.out.frozen 0; have f1 := K4.out.frozen 1; have k0 := K4.out.cell 0; have k1 := K4.out.cell 1; simp only [List.getElem?_toArray, List.getElem?_cons_succ, List.getElem?_cons_zero] at k0 k1; clear hts hb4))
      have KF := (K4.out.set 0 (.string (tx XT))).set 1 (.slice A4 XT.b.length c4)
      have BF := (B4.out.setCell (p := ⟨r, 0, none⟩) (Nat.le_refl _) (.string (tx XT))).setCell (p := ⟨r, 1, none⟩) (Nat.le_refl _) (.slice A4 XT.b.length c4)
      have FF := ((Far.refl (fun i => i = r) w4).setCell (p := ⟨r, 0, none⟩) (fun _ => rfl) (.string (tx XT))).setCell (p := ⟨r, 1, none⟩) (fun _ => rfl) (.slice A4 XT.b.length c4)
      have TSF := TS4.out.far FF (fun b hb _ e => by have e2 : b = r := e; have := RQ.out; omega)
      refine bodyPost_ret (results_tree2e rfl r rfl (.string (tx XT)) (.slice A4 XT.b.length c4) _ rfl KF) rfl ?_
      exact ⟨_, rfl, ⟨_, rfl, TSF.mono (fun b hb _ => by have := RQ.out; omega)⟩, BF.1⟩
/-- The bytes of a map's first node. -/
def topM (l : List Ent) : ByteArray := tx (treeM l)
theorem topM_size {l : List Ent} (h : Mdl.Good l) : (topM l).size ≤ 700 := tx_size (treeM_ok h)
set_option maxRecDepth 100000 in
set_option maxHeartbeats 2000000 in
theorem top_ok {w : World} {v : Value} {l : List Ent} (h : Es w v l) (hg : Mdl.Good l) (hL : LaidN w) :
    Calls Tryz.prog 14 #[v] w fun e w' => e = .returned (.tuple #[.string (topM l), .int .i64 0]) ∧ Below w.heap.size w w' := by
  have WH := Lib.hid (whole_ok h hg hL)
  unfold topM
  generalize treeM l = XT at *
  obtain ⟨A, c, rfl⟩ := h.shape
  clear h hg hL
  go_enter Tryz.func14, Tryz.ntmps14
  go_wp2_with (first | (go_at_call 40; refine WH.out.mono ?_; rintro e w2 ⟨v2, rfl, ⟨u2, hv2, hts⟩, hb2⟩; obtain ⟨A2, c2, hu2⟩ := hts.shape; subst hv2; subst hu2; have HB := Lib.hid hb2; clear hts hb2))
  go_ret2
  exact ⟨rfl, HB.out.alloc HB.out.size _⟩
set_option maxRecDepth 100000 in
set_option maxHeartbeats 2000000 in
theorem top_err {w : World} {v : Value} {l : List Ent} (h : Es w v l) (hl : l.length ≤ 1000) (h0 : ¬ checkN l = 0) :
    Calls Tryz.prog 14 #[v] w fun e w' => e = .returned (.tuple #[.string ⟨#[]⟩, .int .i64 (checkN l)]) ∧ Below w.heap.size w w' := by
  have WH := Lib.hid (whole_err h hl h0)
  obtain ⟨A, c, rfl⟩ := h.shape
  generalize checkN l = q at *
  clear h hl h0
  go_enter Tryz.func14, Tryz.ntmps14
  go_wp2_with (first | (go_at_call 40; refine WH.out.mono ?_; rintro e w2 ⟨rfl, hb2⟩; have HB := Lib.hid hb2; clear hb2))
  go_ret2
  exact ⟨rfl, HB.out.alloc HB.out.size _⟩
set_option maxRecDepth 100000 in
set_option maxHeartbeats 2000000 in
theorem root_ok {w : World} {v : Value} {l : List Ent} (h : Es w v l) (hg : Mdl.Good l) (hL : LaidN w) :
    Calls Tryz.prog 15 #[v] w fun e w' => e = .returned (.tuple #[.string (shaB (topM l)), .int .i64 0]) ∧ Below w.heap.size w w' := by
  have TP := Lib.hid (top_ok h hg hL)
  have LA : Hid (∀ W, Below w.heap.size w W → LaidN W) := Lib.hid (fun W h => hL.on h)
  have TZ := Lib.hid (topM_size hg)
  generalize topM l = T at *
  obtain ⟨A, c, rfl⟩ := h.shape
  clear h hg hL
  go_enter Tryz.func15, Tryz.ntmps15
  go_wp2_with (first
    | (go_at_call 14; refine TP.out.mono ?_; rintro e w2 ⟨rfl, hb2⟩; have HB := Lib.hid hb2; have SH := Lib.hid (of_one T w2.heap.size (w2.alloc (.cells #[.string T] 9)) (LA.out _ (hb2.alloc hb2.size _)).sha (by have := TZ.out; omega) (Blk.new w2 _ _)); clear hb2)
    | (go_at_call 34; refine SH.out.mono ?_; rintro e w3 ⟨rfl, hb3⟩; have HB3 := Lib.hid ((HB.out.alloc HB.out.size (.cells #[.string T] 9)).trans (hb3.mono (by rw [World.size_alloc]; exact Nat.le_succ_of_le HB.out.size))); clear hb3))
  go_ret2
  exact ⟨rfl, HB3.out⟩
set_option maxRecDepth 100000 in
set_option maxHeartbeats 2000000 in
theorem root_err {w : World} {v : Value} {l : List Ent} (h : Es w v l) (hl : l.length ≤ 1000) (h0 : ¬ checkN l = 0) :
    Calls Tryz.prog 15 #[v] w fun e w' => e = .returned (.tuple #[.string ⟨#[]⟩, .int .i64 (checkN l)]) ∧ Below w.heap.size w w' := by
  have TP := Lib.hid (top_err h hl h0)
  obtain ⟨A, c, rfl⟩ := h.shape
  have e1 : (checkN l != 0) = true := by simpa using h0
  generalize checkN l = q at *
  clear h hl h0
  go_enter Tryz.func15, Tryz.ntmps15
  go_wp2_with (first
    | (go_at_call 14; refine TP.out.mono ?_; rintro e w2 ⟨rfl, hb2⟩; have HB := Lib.hid hb2; clear hb2))
  go_ret2
  exact ⟨rfl, HB.out⟩
end Go.Proofs.YtfeonjiiijdibaaGreatDoor
