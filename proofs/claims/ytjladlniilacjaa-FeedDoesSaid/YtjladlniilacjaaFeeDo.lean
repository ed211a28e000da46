/-
  The law's package for feed: notice, do.
-/
import Derived.Test.YtjladlniilacjaaFeeLn
namespace Go.Proofs.Ytjladlniilacjaa
open Go.RowKit Go.Proofs.Fee
set_option linter.unusedVariables false
set_option linter.unusedSimpArgs false
/-- What an act tells, cell by cell. -/
def toldF (x : Tld) (vl vc : Value) : Array Value := #[.bool x.is, .int .i64 (x.n : Int), vl, .int .i64 x.x.ses, .int .i64 x.x.err, .int .i64 x.x.block, .string x.x.root, vc]
theorem results_told {fn : Func} {s : Tmp} (h : fn.results = #[.cell s 65]) (tmps : Array Value) (w : World) (g : Nat) (h4 : tmps[s]?.getD undef = .pointer (some ⟨g, 0, none⟩)) {a0 a1 a2 a3 a4 a5 a6 a7 : Value} (k : Blk w g 65 #[a0, a1, a2, a3, a4, a5, a6, a7]) :
    (results fn tmps).run Try.prog w = .ok (.agg #[a0, a1, a2, a3, a4, a5, a6, a7]) w := by
  have ag : ∀ w : World, (isAgg 65).run Try.prog w = .ok true w := fun w => by kernel_rfl
  have e : ∀ k, (⟨g, 0, none⟩ : Addr).add k = ⟨g, k, none⟩ := fun k => by rw [Addr.add_mid, Nat.zero_add]
  have c0 : w.cell? ⟨g, 0, none⟩ = some a0 := by rw [k.cell]; rfl
  have c1 : w.cell? ⟨g, 1, none⟩ = some a1 := by rw [k.cell]; rfl
  have c2 : w.cell? ⟨g, 2, none⟩ = some a2 := by rw [k.cell]; rfl
  have c3 : w.cell? ⟨g, 3, none⟩ = some a3 := by rw [k.cell]; rfl
  have c4 : w.cell? ⟨g, 4, none⟩ = some a4 := by rw [k.cell]; rfl
  have c5 : w.cell? ⟨g, 5, none⟩ = some a5 := by rw [k.cell]; rfl
  have c6 : w.cell? ⟨g, 6, none⟩ = some a6 := by rw [k.cell]; rfl
  have c7 : w.cell? ⟨g, 7, none⟩ = some a7 := by rw [k.cell]; rfl
  have ld : (loadCells ⟨g, 0, none⟩ 8).run Try.prog w = .ok #[a0, a1, a2, a3, a4, a5, a6, a7] w := by
    simp [loadCells, loadCellsFrom, c0, c1, c2, c3, c4, c5, c6, c7, Result.andThen, e]
  have cs : Try.prog.cellsOf 65 = 8 := by kernel_rfl
  simp [results, h, h4, loadVar, ag, asAddr, ld, cs, Result.andThen]
section
variable {B m mp : Nat} {t t' : Tbl} {rs : Keyz Rw} {w w1 w2 : World}
/-- A call, and what is stored behind it into blocks that were made ahead of it. -/
theorem do_end {N1 N2 n : Nat} {vl vc : Value} {xs : List Value} {cs : List Chg} {c1 c2 : Array Value} {W3 w4 w5 : World} (h : Fd B m mp t rs w) (h3 : Below w.heap.size w W3) (hN1 : w.heap.size ≤ N1) (hN2 : w.heap.size ≤ N2) (hM1 : N1 < W3.heap.size) (hM2 : N2 < W3.heap.size)
    (S : Fs B m mp rs W3 t' w4) (k1 : Blk w4 N1 65 c1) (k2 : Blk w4 N2 65 c2) (hr : w4.ownsRow W3.heap.size 3 1 vl n xs) (hc : Chs w4 vc cs) (F : Far (fun j => j = N1 ∨ j = N2) w4 w5) :
    Fs B m mp rs w t' w5 ∧ w5.ownsRow w.heap.size 3 1 vl n xs ∧ Chs w5 vc cs := by
  obtain ⟨rs', L, F1, O⟩ := S
  have hs := h3.size
  have hno : ∀ k, OwnF m mp rs' k → ¬ (k = N1 ∨ k = N2) := fun k hk e => by
    rcases O k hk with h1 | h1
    · have := (h.ft.own k h1).2
      rcases e with rfl | rfl <;> omega
    · rcases e with rfl | rfl <;> omega
  have hcn : ∀ g c, Blk w4 g 142 c → ¬ (g = N1 ∨ g = N2) := fun g c hg e => by
    rcases e with rfl | rfl
    · exact absurd (blk_type hg k1) (by decide)
    · exact absurd (blk_type hg k2) (by decide)
  refine ⟨⟨rs', ⟨L.ft.far F hno hcn, L.st, L.ok⟩, (((far_of_belowF h3).mono (S' := OwnF m mp rs) (fun _ _ e => e.elim)).trans F1 (fun _ _ e => e)).trans F (fun i hi e => ?_), fun k hk => (O k hk).imp (fun h => h) (fun h => by omega)⟩, row_monoF (own_far hr F (fun b hb e => ?_)) hs, hc.same (fun g c hg => F.block g hg.lt (hcn g c hg))⟩
  · rcases e with rfl | rfl <;> omega
  · have := (hr.lt b hb).1
    rcases e with rfl | rfl <;> omega
/-- Three blocks, made one behind the other. -/
structure Thr (w W3 : World) (a : Deed) : Prop where
  b : Below w.heap.size w W3
  s : W3.heap.size = w.heap.size + 1 + 1 + 1
  k0 : Blk W3 w.heap.size 68 #[.int .i64 a.k, .int .i64 a.s, .int .i64 a.b, .string a.r]
  k1 : Blk W3 (w.heap.size + 1) 65 #[.bool false, .int .i64 0, .slice none 0 0, .int .i64 0, .int .i64 0, .int .i64 0, .string ⟨#[]⟩, .slice none 0 0]
  k2 : Blk W3 (w.heap.size + 1 + 1) 65 #[.bool false, .int .i64 0, .slice none 0 0, .int .i64 0, .int .i64 0, .int .i64 0, .string ⟨#[]⟩, .slice none 0 0]
theorem thr (w : World) (a : Deed) : Thr w (((w.alloc (.cells #[.int .i64 a.k, .int .i64 a.s, .int .i64 a.b, .string a.r] 68)).alloc (.cells #[.bool false, .int .i64 0, .slice none 0 0, .int .i64 0, .int .i64 0, .int .i64 0, .string ⟨#[]⟩, .slice none 0 0] 65)).alloc (.cells #[.bool false, .int .i64 0, .slice none 0 0, .int .i64 0, .int .i64 0, .int .i64 0, .string ⟨#[]⟩, .slice none 0 0] 65)) a := by
  refine ⟨((((Bl.start w).alloc _).alloc _).alloc _).1, by simp, ((Blk.new w _ _).alloc _).alloc _, ?_, ?_⟩
  · have := (Blk.new (w.alloc (.cells #[.int .i64 a.k, .int .i64 a.s, .int .i64 a.b, .string a.r] 68)) 65 #[.bool false, .int .i64 0, .slice none 0 0, .int .i64 0, .int .i64 0, .int .i64 0, .string ⟨#[]⟩, .slice none 0 0]).alloc (.cells #[.bool false, .int .i64 0, .slice none 0 0, .int .i64 0, .int .i64 0, .int .i64 0, .string ⟨#[]⟩, .slice none 0 0] 65)
    simpa using this
  · have := Blk.new ((w.alloc (.cells #[.int .i64 a.k, .int .i64 a.s, .int .i64 a.b, .string a.r] 68)).alloc (.cells #[.bool false, .int .i64 0, .slice none 0 0, .int .i64 0, .int .i64 0, .int .i64 0, .string ⟨#[]⟩, .slice none 0 0] 65)) 65 #[.bool false, .int .i64 0, .slice none 0 0, .int .i64 0, .int .i64 0, .int .i64 0, .string ⟨#[]⟩, .slice none 0 0]
    simpa using this
/-- The two blocks of what is told lie as they were made. -/
theorem thr_held {W3 w3 w4 : World} {a : Deed} (h : Fd B m mp t rs w) (T : Thr w W3 a) (hb : Below W3.heap.size W3 w3) (S : Fs B m mp rs w3 t' w4) : Blk w4 (w.heap.size + 1) 65 #[.bool false, .int .i64 0, .slice none 0 0, .int .i64 0, .int .i64 0, .int .i64 0, .string ⟨#[]⟩, .slice none 0 0] ∧ Blk w4 (w.heap.size + 1 + 1) 65 #[.bool false, .int .i64 0, .slice none 0 0, .int .i64 0, .int .i64 0, .int .i64 0, .string ⟨#[]⟩, .slice none 0 0] ∧ (w.heap.size + 1 < w3.heap.size ∧ w.heap.size + 1 + 1 < w3.heap.size) := by
  obtain ⟨rs', L, F, O⟩ := S
  have := hb.size
  have := T.s
  exact ⟨(T.k1.below hb).far F (fun e => by have := (h.ft.own _ e).2; omega), (T.k2.below hb).far F (fun e => by have := (h.ft.own _ e).2; omega), by omega, by omega⟩
set_option maxRecDepth 100000 in
set_option maxHeartbeats 4000000 in
theorem do0_any (h : Fd B m mp t rs w) (a : Deed) (hs : wfI a.s) (hn : t.rows.length ≤ 1000) (hk : a.k = 0) :
    Calls Try.prog 29 #[.pointer (some ⟨m, 0, none⟩), .agg #[.int .i64 a.k, .int .i64 a.s, .int .i64 a.b, .string a.r]] w fun e w' => ∃ vl vc, e = .returned (.agg (toldF (t.does a).2 vl vc)) ∧ Fs B m mp rs w (t.does a).1 w' ∧ w'.ownsRow w.heap.size 3 1 vl (t.does a).2.l.length ((t.does a).2.l.map (Value.int .i64)) ∧ Chs w' vc (t.does a).2.x.chs := by
  have TH := Lib.hid (thr w a)
  have HL := Lib.hid h
  have H3 := Lib.hid (h.below TH.out.b)
  have hn3 : t.rows.length ≤ 1000 := hn
  have CA := Lib.hid (sub_any H3.out a.s hs (by omega))
  have hdo : t.does a = ((t.sub a.s).1, ⟨(t.sub a.s).2, 0, [], n0⟩) := by
    unfold Tbl.does
    rw [if_pos hk]
  rw [hdo]
  simp only
  obtain ⟨k, s, b, r⟩ := a
  simp only at hk CA TH H3 hs ⊢
  subst hk
  clear h hdo hs hn hn3
  obtain ⟨re, hre⟩ : ∃ z, z = (t.sub s).2 := ⟨_, rfl⟩
  rw [← hre] at CA ⊢
  clear hre
  go_enter Try.func29, Try.ntmps29
  go_wp2_with ((go_at_call 40; refine CA.out.mono ?_; rintro e w4 ⟨rfl, hS⟩; (have S4 := Lib.hid hS); (have HH := thr_held HL.out TH.out (Below.refl _ _) S4.out); (have K1 := Lib.hid HH.1); (have K2 := Lib.hid HH.2.1); (have HM := Lib.hid HH.2.2); (have p0 := K1.out.cell 0); (have p1 := K1.out.cell 1); (have p2 := K1.out.cell 2); (have p3 := K1.out.cell 3); (have p4 := K1.out.cell 4); (have p5 := K1.out.cell 5); (have p6 := K1.out.cell 6); (have p7 := K1.out.cell 7); (have q0 := K2.out.cell 0); (have q1 := K2.out.cell 1); (have q2 := K2.out.cell 2); (have q3 := K2.out.cell 3); (have q4 := K2.out.cell 4); (have q5 := K2.out.cell 5); (have q6 := K2.out.cell 6); (have q7 := K2.out.cell 7); (have r0 := K1.out.frozen 0); (have r1 := K1.out.frozen 1); (have r2 := K1.out.frozen 2); (have r3 := K1.out.frozen 3); (have r4 := K1.out.frozen 4); (have r5 := K1.out.frozen 5); (have r6 := K1.out.frozen 6); (have r7 := K1.out.frozen 7); (have s0 := K2.out.frozen 0); (have s1 := K2.out.frozen 1); (have s2 := K2.out.frozen 2); (have s3 := K2.out.frozen 3); (have s4 := K2.out.frozen 4); (have s5 := K2.out.frozen 5); (have s6 := K2.out.frozen 6); (have s7 := K2.out.frozen 7); (simp only [List.getElem?_toArray, List.getElem?_cons_succ, List.getElem?_cons_zero] at p0 p1 p2 p3 p4 p5 p6 p7 q0 q1 q2 q3 q4 q5 q6 q7); clear hS HH))
  have KF := (Blk.set (Blk.set (Blk.set (Blk.set (Blk.set (Blk.set (Blk.set (Blk.set (Blk.other (p := ⟨w.heap.size + 1 + 1, 0, none⟩) K1.out (by simp) (.bool re)) 0 (.bool re)) 1 (.int .i64 0)) 2 (.slice none 0 0)) 3 (.int .i64 0)) 4 (.int .i64 0)) 5 (.int .i64 0)) 6 (.string ⟨#[]⟩)) 7 (.slice none 0 0))
  simp only [List.setIfInBounds_toArray, List.set_cons_zero, List.set_cons_succ] at KF
  have FF := (Far.setCell (p := ⟨w.heap.size + 1, 7, none⟩) (Far.setCell (p := ⟨w.heap.size + 1, 6, none⟩) (Far.setCell (p := ⟨w.heap.size + 1, 5, none⟩) (Far.setCell (p := ⟨w.heap.size + 1, 4, none⟩) (Far.setCell (p := ⟨w.heap.size + 1, 3, none⟩) (Far.setCell (p := ⟨w.heap.size + 1, 2, none⟩) (Far.setCell (p := ⟨w.heap.size + 1, 1, none⟩) (Far.setCell (p := ⟨w.heap.size + 1, 0, none⟩) (Far.setCell (p := ⟨w.heap.size + 1 + 1, 0, none⟩) (Far.refl (fun j => j = w.heap.size + 1 ∨ j = w.heap.size + 1 + 1) w4) (fun _ => .inr rfl) (.bool re)) (fun _ => .inl rfl) (.bool re)) (fun _ => .inl rfl) (.int .i64 0)) (fun _ => .inl rfl) (.slice none 0 0)) (fun _ => .inl rfl) (.int .i64 0)) (fun _ => .inl rfl) (.int .i64 0)) (fun _ => .inl rfl) (.int .i64 0)) (fun _ => .inl rfl) (.string ⟨#[]⟩)) (fun _ => .inl rfl) (.slice none 0 0))
  refine bodyPost_ret (results_told (g := w.heap.size + 1) rfl _ _ rfl KF) rfl ⟨.slice none 0 0, .slice none 0 0, rfl, ?_⟩
  exact do_end HL.out TH.out.b (by omega) (by omega) HM.out.1 HM.out.2 S4.out K1.out K2.out ⟨rfl, .inl ⟨rfl, rfl⟩⟩ (.inl ⟨rfl, rfl⟩) FF
set_option maxRecDepth 100000 in
set_option maxHeartbeats 4000000 in
theorem do1_any (h : Fd B m mp t rs w) (a : Deed) (hs : wfI a.s) (hn : t.rows.length ≤ 1000) (hk : a.k = 1) :
    Calls Try.prog 29 #[.pointer (some ⟨m, 0, none⟩), .agg #[.int .i64 a.k, .int .i64 a.s, .int .i64 a.b, .string a.r]] w fun e w' => ∃ vl vc, e = .returned (.agg (toldF (t.does a).2 vl vc)) ∧ Fs B m mp rs w (t.does a).1 w' ∧ w'.ownsRow w.heap.size 3 1 vl (t.does a).2.l.length ((t.does a).2.l.map (Value.int .i64)) ∧ Chs w' vc (t.does a).2.x.chs := by
  have TH := Lib.hid (thr w a)
  have HL := Lib.hid h
  have H3 := Lib.hid (h.below TH.out.b)
  have hn3 : t.rows.length ≤ 1000 := hn
  have CA := Lib.hid (unsub_any H3.out a.s hs)
  have hdo : t.does a = ((t.unsub a.s).1, ⟨(t.unsub a.s).2, 0, [], n0⟩) := by
    unfold Tbl.does
    rw [if_neg (by omega), if_pos hk]
  rw [hdo]
  simp only
  obtain ⟨k, s, b, r⟩ := a
  simp only at hk CA TH H3 hs ⊢
  subst hk
  clear h hdo hs hn hn3
  obtain ⟨re, hre⟩ : ∃ z, z = (t.unsub s).2 := ⟨_, rfl⟩
  rw [← hre] at CA ⊢
  clear hre
  go_enter Try.func29, Try.ntmps29
  go_wp2_with ((go_at_call 53; refine CA.out.mono ?_; rintro e w4 ⟨rfl, hS⟩; (have S4 := Lib.hid hS); (have HH := thr_held HL.out TH.out (Below.refl _ _) S4.out); (have K1 := Lib.hid HH.1); (have K2 := Lib.hid HH.2.1); (have HM := Lib.hid HH.2.2); (have p0 := K1.out.cell 0); (have p1 := K1.out.cell 1); (have p2 := K1.out.cell 2); (have p3 := K1.out.cell 3); (have p4 := K1.out.cell 4); (have p5 := K1.out.cell 5); (have p6 := K1.out.cell 6); (have p7 := K1.out.cell 7); (have q0 := K2.out.cell 0); (have q1 := K2.out.cell 1); (have q2 := K2.out.cell 2); (have q3 := K2.out.cell 3); (have q4 := K2.out.cell 4); (have q5 := K2.out.cell 5); (have q6 := K2.out.cell 6); (have q7 := K2.out.cell 7); (have r0 := K1.out.frozen 0); (have r1 := K1.out.frozen 1); (have r2 := K1.out.frozen 2); (have r3 := K1.out.frozen 3); (have r4 := K1.out.frozen 4); (have r5 := K1.out.frozen 5); (have r6 := K1.out.frozen 6); (have r7 := K1.out.frozen 7); (have s0 := K2.out.frozen 0); (have s1 := K2.out.frozen 1); (have s2 := K2.out.frozen 2); (have s3 := K2.out.frozen 3); (have s4 := K2.out.frozen 4); (have s5 := K2.out.frozen 5); (have s6 := K2.out.frozen 6); (have s7 := K2.out.frozen 7); (simp only [List.getElem?_toArray, List.getElem?_cons_succ, List.getElem?_cons_zero] at p0 p1 p2 p3 p4 p5 p6 p7 q0 q1 q2 q3 q4 q5 q6 q7); clear hS HH))
  have KF := (Blk.set (Blk.set (Blk.set (Blk.set (Blk.set (Blk.set (Blk.set (Blk.set (Blk.other (p := ⟨w.heap.size + 1 + 1, 0, none⟩) K1.out (by simp) (.bool re)) 0 (.bool re)) 1 (.int .i64 0)) 2 (.slice none 0 0)) 3 (.int .i64 0)) 4 (.int .i64 0)) 5 (.int .i64 0)) 6 (.string ⟨#[]⟩)) 7 (.slice none 0 0))
  simp only [List.setIfInBounds_toArray, List.set_cons_zero, List.set_cons_succ] at KF
  have FF := (Far.setCell (p := ⟨w.heap.size + 1, 7, none⟩) (Far.setCell (p := ⟨w.heap.size + 1, 6, none⟩) (Far.setCell (p := ⟨w.heap.size + 1, 5, none⟩) (Far.setCell (p := ⟨w.heap.size + 1, 4, none⟩) (Far.setCell (p := ⟨w.heap.size + 1, 3, none⟩) (Far.setCell (p := ⟨w.heap.size + 1, 2, none⟩) (Far.setCell (p := ⟨w.heap.size + 1, 1, none⟩) (Far.setCell (p := ⟨w.heap.size + 1, 0, none⟩) (Far.setCell (p := ⟨w.heap.size + 1 + 1, 0, none⟩) (Far.refl (fun j => j = w.heap.size + 1 ∨ j = w.heap.size + 1 + 1) w4) (fun _ => .inr rfl) (.bool re)) (fun _ => .inl rfl) (.bool re)) (fun _ => .inl rfl) (.int .i64 0)) (fun _ => .inl rfl) (.slice none 0 0)) (fun _ => .inl rfl) (.int .i64 0)) (fun _ => .inl rfl) (.int .i64 0)) (fun _ => .inl rfl) (.int .i64 0)) (fun _ => .inl rfl) (.string ⟨#[]⟩)) (fun _ => .inl rfl) (.slice none 0 0))
  refine bodyPost_ret (results_told (g := w.heap.size + 1) rfl _ _ rfl KF) rfl ⟨.slice none 0 0, .slice none 0 0, rfl, ?_⟩
  exact do_end HL.out TH.out.b (by omega) (by omega) HM.out.1 HM.out.2 S4.out K1.out K2.out ⟨rfl, .inl ⟨rfl, rfl⟩⟩ (.inl ⟨rfl, rfl⟩) FF
set_option maxRecDepth 100000 in
set_option maxHeartbeats 4000000 in
theorem do2_any (h : Fd B m mp t rs w) (a : Deed) (hs : wfI a.s) (hn : t.rows.length ≤ 1000) (hk : a.k = 2) :
    Calls Try.prog 29 #[.pointer (some ⟨m, 0, none⟩), .agg #[.int .i64 a.k, .int .i64 a.s, .int .i64 a.b, .string a.r]] w fun e w' => ∃ vl vc, e = .returned (.agg (toldF (t.does a).2 vl vc)) ∧ Fs B m mp rs w (t.does a).1 w' ∧ w'.ownsRow w.heap.size 3 1 vl (t.does a).2.l.length ((t.does a).2.l.map (Value.int .i64)) ∧ Chs w' vc (t.does a).2.x.chs := by
  have TH := Lib.hid (thr w a)
  have HL := Lib.hid h
  have H3 := Lib.hid (h.below TH.out.b)
  have hn3 : t.rows.length ≤ 1000 := hn
  have LN := Lib.hid (fun W => lnotice_any a W)
  have CA : Hid (∀ W A c, Fd B m mp t rs W → Chs W (.slice A 1 c) (pushN a).chs → Calls Try.prog 52 #[.pointer (some ⟨m, 0, none⟩), .agg #[.int .i64 77, .int .i64 0, .int .i64 a.b, .string a.r, .slice A 1 c]] W fun e w' => ∃ v, e = .returned v ∧ w'.ownsRow W.heap.size 3 1 v (t.push (pushN a)).2.length ((t.push (pushN a)).2.map (Value.int .i64)) ∧ Fs B m mp rs W (t.push (pushN a)).1 w') := Lib.hid (fun W A c hf hc => push_any hf (pushN a) A 1 c hc (by show 1 ≤ 1000; decide) hn3)
  have hdo : t.does a = ((t.push (pushN a)).1, ⟨false, 0, (t.push (pushN a)).2, n0⟩) := by
    unfold Tbl.does
    rw [if_neg (by omega), if_neg (by omega), if_pos hk]
  rw [hdo]
  simp only
  obtain ⟨k, s, b, r⟩ := a
  simp only at hk CA TH H3 hs ⊢
  subst hk
  clear h hdo hs hn hn3
  obtain ⟨T2, hT2⟩ : ∃ z, z = (t.push (pushN ⟨2, s, b, r⟩)).1 := ⟨_, rfl⟩
  obtain ⟨LL, hLL⟩ : ∃ z, z = (t.push (pushN ⟨2, s, b, r⟩)).2 := ⟨_, rfl⟩
  rw [← hT2, ← hLL] at CA ⊢
  clear hT2 hLL
  go_enter Try.func29, Try.ntmps29
  go_wp2_with fail
  refine (LN.out _).mono ?_
  rintro e w3 ⟨A3, c3, rfl, hc3, hb3⟩
  have B3 := Lib.hid hb3
  have C3 := Lib.hid hc3
  have D3 := Lib.hid (H3.out.below hb3)
  clear hb3 hc3
  go_wp2_with fail
  refine (CA.out w3 A3 c3 D3.out C3.out).mono ?_
  rintro e w4 ⟨vl, rfl, hO, hS⟩
  have S4 := Lib.hid hS
  have HH := thr_held HL.out TH.out B3.out S4.out
  have K1 := Lib.hid HH.1
  have K2 := Lib.hid HH.2.1
  have HM := Lib.hid HH.2.2
  have q0 := K2.out.cell 0
  have q1 := K2.out.cell 1
  have q2 := K2.out.cell 2
  have q3 := K2.out.cell 3
  have q4 := K2.out.cell 4
  have q5 := K2.out.cell 5
  have q6 := K2.out.cell 6
  have q7 := K2.out.cell 7
  have s0 := K2.out.frozen 0
  have s1 := K2.out.frozen 1
  have s2 := K2.out.frozen 2
  have s3 := K2.out.frozen 3
  have s4 := K2.out.frozen 4
  have s5 := K2.out.frozen 5
  have s6 := K2.out.frozen 6
  have s7 := K2.out.frozen 7
  simp only [List.getElem?_toArray, List.getElem?_cons_succ, List.getElem?_cons_zero] at q0 q1 q2 q3 q4 q5 q6 q7
  have HO := Lib.hid hO
  obtain ⟨LA, LC, rfl⟩ := own_shape hO
  clear hO hS HH
  go_upto_region 12 with (fail)
  have L2 := Lib.hid (show Blk (w4.setCell ⟨w.heap.size + 1 + 1, 2, none⟩ (.slice LA LL.length LC)) (w.heap.size + 1 + 1) 65 #[.bool false, .int .i64 0, .slice LA LL.length LC, .int .i64 0, .int .i64 0, .int .i64 0, .string ⟨#[]⟩, .slice none 0 0] from (Blk.set K2.out 2 (.slice LA LL.length LC)))
  have L1 := Lib.hid (show Blk (w4.setCell ⟨w.heap.size + 1 + 1, 2, none⟩ (.slice LA LL.length LC)) (w.heap.size + 1) 65 #[.bool false, .int .i64 0, .slice none 0 0, .int .i64 0, .int .i64 0, .int .i64 0, .string ⟨#[]⟩, .slice none 0 0] from (Blk.other (p := ⟨w.heap.size + 1 + 1, 2, none⟩) K1.out (by simp) (.slice LA LL.length LC)))
  have FG := Lib.hid (Far.setCell (p := ⟨w.heap.size + 1 + 1, 2, none⟩) (Far.refl (fun j => j = w.heap.size + 1 ∨ j = w.heap.size + 1 + 1) w4) (fun _ => .inr rfl) (.slice LA LL.length LC))
  generalize (w4.setCell ⟨w.heap.size + 1 + 1, 2, none⟩ (.slice LA LL.length LC)) = w5 at L1 L2 FG ⊢
  clear q0 q1 q2 q3 q4 q5 q6 q7 s0 s1 s2 s3 s4 s5 s6 s7
  have p0 := L1.out.cell 0
  have q0 := L2.out.cell 0
  have r0 := L1.out.frozen 0
  have p1 := L1.out.cell 1
  have q1 := L2.out.cell 1
  have r1 := L1.out.frozen 1
  have p2 := L1.out.cell 2
  have q2 := L2.out.cell 2
  have r2 := L1.out.frozen 2
  have p3 := L1.out.cell 3
  have q3 := L2.out.cell 3
  have r3 := L1.out.frozen 3
  have p4 := L1.out.cell 4
  have q4 := L2.out.cell 4
  have r4 := L1.out.frozen 4
  have p5 := L1.out.cell 5
  have q5 := L2.out.cell 5
  have r5 := L1.out.frozen 5
  have p6 := L1.out.cell 6
  have q6 := L2.out.cell 6
  have r6 := L1.out.frozen 6
  have p7 := L1.out.cell 7
  have q7 := L2.out.cell 7
  have r7 := L1.out.frozen 7
  simp only [List.getElem?_toArray, List.getElem?_cons_succ, List.getElem?_cons_zero] at p0 p1 p2 p3 p4 p5 p6 p7 q0 q1 q2 q3 q4 q5 q6 q7
  go_wp2_with fail
  have KF := (Blk.set (Blk.set (Blk.set (Blk.set (Blk.set (Blk.set (Blk.set (Blk.set L1.out 0 (.bool false)) 1 (.int .i64 0)) 2 (.slice LA LL.length LC)) 3 (.int .i64 0)) 4 (.int .i64 0)) 5 (.int .i64 0)) 6 (.string ⟨#[]⟩)) 7 (.slice none 0 0))
  simp only [List.setIfInBounds_toArray, List.set_cons_zero, List.set_cons_succ] at KF
  have FF := FG.out.trans (Far.setCell (p := ⟨w.heap.size + 1, 7, none⟩) (Far.setCell (p := ⟨w.heap.size + 1, 6, none⟩) (Far.setCell (p := ⟨w.heap.size + 1, 5, none⟩) (Far.setCell (p := ⟨w.heap.size + 1, 4, none⟩) (Far.setCell (p := ⟨w.heap.size + 1, 3, none⟩) (Far.setCell (p := ⟨w.heap.size + 1, 2, none⟩) (Far.setCell (p := ⟨w.heap.size + 1, 1, none⟩) (Far.setCell (p := ⟨w.heap.size + 1, 0, none⟩) (Far.refl (fun j => j = w.heap.size + 1 ∨ j = w.heap.size + 1 + 1) w5) (fun _ => .inl rfl) (.bool false)) (fun _ => .inl rfl) (.int .i64 0)) (fun _ => .inl rfl) (.slice LA LL.length LC)) (fun _ => .inl rfl) (.int .i64 0)) (fun _ => .inl rfl) (.int .i64 0)) (fun _ => .inl rfl) (.int .i64 0)) (fun _ => .inl rfl) (.string ⟨#[]⟩)) (fun _ => .inl rfl) (.slice none 0 0)) (fun _ _ e => e)
  refine bodyPost_ret (results_told (g := w.heap.size + 1) rfl _ _ rfl KF) rfl ⟨.slice LA LL.length LC, .slice none 0 0, rfl, ?_⟩
  exact do_end HL.out (TH.out.b.trans (B3.out.mono TH.out.b.size)) (by omega) (by omega) HM.out.1 HM.out.2 S4.out K1.out K2.out HO.out (.inl ⟨rfl, rfl⟩) FF
set_option maxRecDepth 100000 in
set_option maxHeartbeats 4000000 in
theorem do3_any (h : Fd B m mp t rs w) (a : Deed) (hs : wfI a.s) (hn : t.rows.length ≤ 1000) (hk : a.k = 3) :
    Calls Try.prog 29 #[.pointer (some ⟨m, 0, none⟩), .agg #[.int .i64 a.k, .int .i64 a.s, .int .i64 a.b, .string a.r]] w fun e w' => ∃ vl vc, e = .returned (.agg (toldF (t.does a).2 vl vc)) ∧ Fs B m mp rs w (t.does a).1 w' ∧ w'.ownsRow w.heap.size 3 1 vl (t.does a).2.l.length ((t.does a).2.l.map (Value.int .i64)) ∧ Chs w' vc (t.does a).2.x.chs := by
  have TH := Lib.hid (thr w a)
  have HL := Lib.hid h
  have H3 := Lib.hid (h.below TH.out.b)
  have hn3 : t.rows.length ≤ 1000 := hn
  have CA := Lib.hid (pop_any H3.out a.s hs)
  have hdo : t.does a = ((t.pop a.s).1, ⟨(t.pop a.s).2.2, 0, [], (t.pop a.s).2.1⟩) := by
    unfold Tbl.does
    rw [if_neg (by omega), if_neg (by omega), if_neg (by omega), if_pos hk]
  rw [hdo]
  simp only
  obtain ⟨k, s, b, r⟩ := a
  simp only at hk CA TH H3 hs ⊢
  subst hk
  clear h hdo hs hn hn3
  obtain ⟨re, hre⟩ : ∃ z, z = (t.pop s).2.2 := ⟨_, rfl⟩
  obtain ⟨nn, hnn⟩ : ∃ z, z = (t.pop s).2.1 := ⟨_, rfl⟩
  obtain ⟨T2, hT2⟩ : ∃ z, z = (t.pop s).1 := ⟨_, rfl⟩
  rw [← hre, ← hnn, ← hT2] at CA ⊢
  unfold cellN at CA
  simp only at CA
  clear hre hnn hT2
  go_enter Try.func29, Try.ntmps29
  go_wp2_with fail
  refine CA.out.mono ?_
  rintro e w4 ⟨vc, rfl, hC, hS⟩
  have S4 := Lib.hid hS
  have HH := thr_held HL.out TH.out (Below.refl _ _) S4.out
  have K1 := Lib.hid HH.1
  have K2 := Lib.hid HH.2.1
  have HM := Lib.hid HH.2.2
  have q0 := K2.out.cell 0
  have q1 := K2.out.cell 1
  have q2 := K2.out.cell 2
  have q3 := K2.out.cell 3
  have q4 := K2.out.cell 4
  have q5 := K2.out.cell 5
  have q6 := K2.out.cell 6
  have q7 := K2.out.cell 7
  have s0 := K2.out.frozen 0
  have s1 := K2.out.frozen 1
  have s2 := K2.out.frozen 2
  have s3 := K2.out.frozen 3
  have s4 := K2.out.frozen 4
  have s5 := K2.out.frozen 5
  have s6 := K2.out.frozen 6
  have s7 := K2.out.frozen 7
  simp only [List.getElem?_toArray, List.getElem?_cons_succ, List.getElem?_cons_zero] at q0 q1 q2 q3 q4 q5 q6 q7
  have HC := Lib.hid hC
  obtain ⟨CA1, CN1, CC1, rfl⟩ := hC.slice
  clear hC hS HH
  go_upto_region 12 with (fail)
  have L2 := Lib.hid (show Blk ((((((w4.setCell ⟨w.heap.size + 1 + 1, 3, none⟩ (.int .i64 nn.ses)).setCell ⟨w.heap.size + 1 + 1, 4, none⟩ (.int .i64 nn.err)).setCell ⟨w.heap.size + 1 + 1, 5, none⟩ (.int .i64 nn.block)).setCell ⟨w.heap.size + 1 + 1, 6, none⟩ (.string nn.root)).setCell ⟨w.heap.size + 1 + 1, 7, none⟩ (.slice CA1 CN1 CC1)).setCell ⟨w.heap.size + 1 + 1, 0, none⟩ (.bool re)) (w.heap.size + 1 + 1) 65 #[.bool re, .int .i64 0, .slice none 0 0, .int .i64 nn.ses, .int .i64 nn.err, .int .i64 nn.block, .string nn.root, .slice CA1 CN1 CC1] from (Blk.set (Blk.set (Blk.set (Blk.set (Blk.set (Blk.set K2.out 3 (.int .i64 nn.ses)) 4 (.int .i64 nn.err)) 5 (.int .i64 nn.block)) 6 (.string nn.root)) 7 (.slice CA1 CN1 CC1)) 0 (.bool re)))
  have L1 := Lib.hid (show Blk ((((((w4.setCell ⟨w.heap.size + 1 + 1, 3, none⟩ (.int .i64 nn.ses)).setCell ⟨w.heap.size + 1 + 1, 4, none⟩ (.int .i64 nn.err)).setCell ⟨w.heap.size + 1 + 1, 5, none⟩ (.int .i64 nn.block)).setCell ⟨w.heap.size + 1 + 1, 6, none⟩ (.string nn.root)).setCell ⟨w.heap.size + 1 + 1, 7, none⟩ (.slice CA1 CN1 CC1)).setCell ⟨w.heap.size + 1 + 1, 0, none⟩ (.bool re)) (w.heap.size + 1) 65 #[.bool false, .int .i64 0, .slice none 0 0, .int .i64 0, .int .i64 0, .int .i64 0, .string ⟨#[]⟩, .slice none 0 0] from (Blk.other (p := ⟨w.heap.size + 1 + 1, 0, none⟩) (Blk.other (p := ⟨w.heap.size + 1 + 1, 7, none⟩) (Blk.other (p := ⟨w.heap.size + 1 + 1, 6, none⟩) (Blk.other (p := ⟨w.heap.size + 1 + 1, 5, none⟩) (Blk.other (p := ⟨w.heap.size + 1 + 1, 4, none⟩) (Blk.other (p := ⟨w.heap.size + 1 + 1, 3, none⟩) K1.out (by simp) (.int .i64 nn.ses)) (by simp) (.int .i64 nn.err)) (by simp) (.int .i64 nn.block)) (by simp) (.string nn.root)) (by simp) (.slice CA1 CN1 CC1)) (by simp) (.bool re)))
  have FG := Lib.hid (Far.setCell (p := ⟨w.heap.size + 1 + 1, 0, none⟩) (Far.setCell (p := ⟨w.heap.size + 1 + 1, 7, none⟩) (Far.setCell (p := ⟨w.heap.size + 1 + 1, 6, none⟩) (Far.setCell (p := ⟨w.heap.size + 1 + 1, 5, none⟩) (Far.setCell (p := ⟨w.heap.size + 1 + 1, 4, none⟩) (Far.setCell (p := ⟨w.heap.size + 1 + 1, 3, none⟩) (Far.refl (fun j => j = w.heap.size + 1 ∨ j = w.heap.size + 1 + 1) w4) (fun _ => .inr rfl) (.int .i64 nn.ses)) (fun _ => .inr rfl) (.int .i64 nn.err)) (fun _ => .inr rfl) (.int .i64 nn.block)) (fun _ => .inr rfl) (.string nn.root)) (fun _ => .inr rfl) (.slice CA1 CN1 CC1)) (fun _ => .inr rfl) (.bool re))
  generalize ((((((w4.setCell ⟨w.heap.size + 1 + 1, 3, none⟩ (.int .i64 nn.ses)).setCell ⟨w.heap.size + 1 + 1, 4, none⟩ (.int .i64 nn.err)).setCell ⟨w.heap.size + 1 + 1, 5, none⟩ (.int .i64 nn.block)).setCell ⟨w.heap.size + 1 + 1, 6, none⟩ (.string nn.root)).setCell ⟨w.heap.size + 1 + 1, 7, none⟩ (.slice CA1 CN1 CC1)).setCell ⟨w.heap.size + 1 + 1, 0, none⟩ (.bool re)) = w5 at L1 L2 FG ⊢
  clear q0 q1 q2 q3 q4 q5 q6 q7 s0 s1 s2 s3 s4 s5 s6 s7
  have p0 := L1.out.cell 0
  have q0 := L2.out.cell 0
  have r0 := L1.out.frozen 0
  have p1 := L1.out.cell 1
  have q1 := L2.out.cell 1
  have r1 := L1.out.frozen 1
  have p2 := L1.out.cell 2
  have q2 := L2.out.cell 2
  have r2 := L1.out.frozen 2
  have p3 := L1.out.cell 3
  have q3 := L2.out.cell 3
  have r3 := L1.out.frozen 3
  have p4 := L1.out.cell 4
  have q4 := L2.out.cell 4
  have r4 := L1.out.frozen 4
  have p5 := L1.out.cell 5
  have q5 := L2.out.cell 5
  have r5 := L1.out.frozen 5
  have p6 := L1.out.cell 6
  have q6 := L2.out.cell 6
  have r6 := L1.out.frozen 6
  have p7 := L1.out.cell 7
  have q7 := L2.out.cell 7
  have r7 := L1.out.frozen 7
  simp only [List.getElem?_toArray, List.getElem?_cons_succ, List.getElem?_cons_zero] at p0 p1 p2 p3 p4 p5 p6 p7 q0 q1 q2 q3 q4 q5 q6 q7
  go_wp2_with fail
  have KF := (Blk.set (Blk.set (Blk.set (Blk.set (Blk.set (Blk.set (Blk.set (Blk.set L1.out 0 (.bool re)) 1 (.int .i64 0)) 2 (.slice none 0 0)) 3 (.int .i64 nn.ses)) 4 (.int .i64 nn.err)) 5 (.int .i64 nn.block)) 6 (.string nn.root)) 7 (.slice CA1 CN1 CC1))
  simp only [List.setIfInBounds_toArray, List.set_cons_zero, List.set_cons_succ] at KF
  have FF := FG.out.trans (Far.setCell (p := ⟨w.heap.size + 1, 7, none⟩) (Far.setCell (p := ⟨w.heap.size + 1, 6, none⟩) (Far.setCell (p := ⟨w.heap.size + 1, 5, none⟩) (Far.setCell (p := ⟨w.heap.size + 1, 4, none⟩) (Far.setCell (p := ⟨w.heap.size + 1, 3, none⟩) (Far.setCell (p := ⟨w.heap.size + 1, 2, none⟩) (Far.setCell (p := ⟨w.heap.size + 1, 1, none⟩) (Far.setCell (p := ⟨w.heap.size + 1, 0, none⟩) (Far.refl (fun j => j = w.heap.size + 1 ∨ j = w.heap.size + 1 + 1) w5) (fun _ => .inl rfl) (.bool re)) (fun _ => .inl rfl) (.int .i64 0)) (fun _ => .inl rfl) (.slice none 0 0)) (fun _ => .inl rfl) (.int .i64 nn.ses)) (fun _ => .inl rfl) (.int .i64 nn.err)) (fun _ => .inl rfl) (.int .i64 nn.block)) (fun _ => .inl rfl) (.string nn.root)) (fun _ => .inl rfl) (.slice CA1 CN1 CC1)) (fun _ _ e => e)
  refine bodyPost_ret (results_told (g := w.heap.size + 1) rfl _ _ rfl KF) rfl ⟨.slice none 0 0, .slice CA1 CN1 CC1, rfl, ?_⟩
  exact do_end HL.out TH.out.b (by omega) (by omega) HM.out.1 HM.out.2 S4.out K1.out K2.out ⟨rfl, .inl ⟨rfl, rfl⟩⟩ HC.out FF
set_option maxRecDepth 100000 in
set_option maxHeartbeats 4000000 in
theorem do4_any (h : Fd B m mp t rs w) (a : Deed) (hs : wfI a.s) (hn : t.rows.length ≤ 1000) (hk : ¬ a.k = 0 ∧ ¬ a.k = 1 ∧ ¬ a.k = 2 ∧ ¬ a.k = 3) :
    Calls Try.prog 29 #[.pointer (some ⟨m, 0, none⟩), .agg #[.int .i64 a.k, .int .i64 a.s, .int .i64 a.b, .string a.r]] w fun e w' => ∃ vl vc, e = .returned (.agg (toldF (t.does a).2 vl vc)) ∧ Fs B m mp rs w (t.does a).1 w' ∧ w'.ownsRow w.heap.size 3 1 vl (t.does a).2.l.length ((t.does a).2.l.map (Value.int .i64)) ∧ Chs w' vc (t.does a).2.x.chs := by
  have TH := Lib.hid (thr w a)
  have HL := Lib.hid h
  have H3 := Lib.hid (h.below TH.out.b)
  have hn3 : t.rows.length ≤ 1000 := hn
  have CA := Lib.hid (forget_any H3.out a.s hs)
  have hdo : t.does a = ((t.forget a.s).1, ⟨false, (t.forget a.s).2, [], n0⟩) := by
    unfold Tbl.does
    rw [if_neg hk.1, if_neg hk.2.1, if_neg hk.2.2.1, if_neg hk.2.2.2]
  rw [hdo]
  simp only
  obtain ⟨k, s, b, r⟩ := a
  simp only at hk CA TH H3 hs ⊢
  obtain ⟨k0, k1, k2, k3⟩ := hk
  clear h hdo hs hn hn3
  obtain ⟨re, hre⟩ : ∃ z, z = (t.forget s).2 := ⟨_, rfl⟩
  rw [← hre] at CA ⊢
  clear hre
  go_enter Try.func29, Try.ntmps29
  go_wp2_with ((go_at_call 38; refine CA.out.mono ?_; rintro e w4 ⟨rfl, hS⟩; (have S4 := Lib.hid hS); (have HH := thr_held HL.out TH.out (Below.refl _ _) S4.out); (have K1 := Lib.hid HH.1); (have K2 := Lib.hid HH.2.1); (have HM := Lib.hid HH.2.2); (have p0 := K1.out.cell 0); (have p1 := K1.out.cell 1); (have p2 := K1.out.cell 2); (have p3 := K1.out.cell 3); (have p4 := K1.out.cell 4); (have p5 := K1.out.cell 5); (have p6 := K1.out.cell 6); (have p7 := K1.out.cell 7); (have q0 := K2.out.cell 0); (have q1 := K2.out.cell 1); (have q2 := K2.out.cell 2); (have q3 := K2.out.cell 3); (have q4 := K2.out.cell 4); (have q5 := K2.out.cell 5); (have q6 := K2.out.cell 6); (have q7 := K2.out.cell 7); (have r0 := K1.out.frozen 0); (have r1 := K1.out.frozen 1); (have r2 := K1.out.frozen 2); (have r3 := K1.out.frozen 3); (have r4 := K1.out.frozen 4); (have r5 := K1.out.frozen 5); (have r6 := K1.out.frozen 6); (have r7 := K1.out.frozen 7); (have s0 := K2.out.frozen 0); (have s1 := K2.out.frozen 1); (have s2 := K2.out.frozen 2); (have s3 := K2.out.frozen 3); (have s4 := K2.out.frozen 4); (have s5 := K2.out.frozen 5); (have s6 := K2.out.frozen 6); (have s7 := K2.out.frozen 7); (simp only [List.getElem?_toArray, List.getElem?_cons_succ, List.getElem?_cons_zero] at p0 p1 p2 p3 p4 p5 p6 p7 q0 q1 q2 q3 q4 q5 q6 q7); clear hS HH))
  have KF := (Blk.set (Blk.set (Blk.set (Blk.set (Blk.set (Blk.set (Blk.set (Blk.set (Blk.other (p := ⟨w.heap.size + 1 + 1, 1, none⟩) K1.out (by simp) (.int .i64 (re : Int))) 0 (.bool false)) 1 (.int .i64 (re : Int))) 2 (.slice none 0 0)) 3 (.int .i64 0)) 4 (.int .i64 0)) 5 (.int .i64 0)) 6 (.string ⟨#[]⟩)) 7 (.slice none 0 0))
  simp only [List.setIfInBounds_toArray, List.set_cons_zero, List.set_cons_succ] at KF
  have FF := (Far.setCell (p := ⟨w.heap.size + 1, 7, none⟩) (Far.setCell (p := ⟨w.heap.size + 1, 6, none⟩) (Far.setCell (p := ⟨w.heap.size + 1, 5, none⟩) (Far.setCell (p := ⟨w.heap.size + 1, 4, none⟩) (Far.setCell (p := ⟨w.heap.size + 1, 3, none⟩) (Far.setCell (p := ⟨w.heap.size + 1, 2, none⟩) (Far.setCell (p := ⟨w.heap.size + 1, 1, none⟩) (Far.setCell (p := ⟨w.heap.size + 1, 0, none⟩) (Far.setCell (p := ⟨w.heap.size + 1 + 1, 1, none⟩) (Far.refl (fun j => j = w.heap.size + 1 ∨ j = w.heap.size + 1 + 1) w4) (fun _ => .inr rfl) (.int .i64 (re : Int))) (fun _ => .inl rfl) (.bool false)) (fun _ => .inl rfl) (.int .i64 (re : Int))) (fun _ => .inl rfl) (.slice none 0 0)) (fun _ => .inl rfl) (.int .i64 0)) (fun _ => .inl rfl) (.int .i64 0)) (fun _ => .inl rfl) (.int .i64 0)) (fun _ => .inl rfl) (.string ⟨#[]⟩)) (fun _ => .inl rfl) (.slice none 0 0))
  refine bodyPost_ret (results_told (g := w.heap.size + 1) rfl _ _ rfl KF) rfl ⟨.slice none 0 0, .slice none 0 0, rfl, ?_⟩
  exact do_end HL.out TH.out.b (by omega) (by omega) HM.out.1 HM.out.2 S4.out K1.out K2.out ⟨rfl, .inl ⟨rfl, rfl⟩⟩ (.inl ⟨rfl, rfl⟩) FF
/-- An act, whatever it is. -/
theorem do_any (h : Fd B m mp t rs w) (a : Deed) (hs : wfI a.s) (hn : t.rows.length ≤ 1000) : Calls Try.prog 29 #[.pointer (some ⟨m, 0, none⟩), .agg #[.int .i64 a.k, .int .i64 a.s, .int .i64 a.b, .string a.r]] w fun e w' => ∃ vl vc, e = .returned (.agg (toldF (t.does a).2 vl vc)) ∧ Fs B m mp rs w (t.does a).1 w' ∧ w'.ownsRow w.heap.size 3 1 vl (t.does a).2.l.length ((t.does a).2.l.map (Value.int .i64)) ∧ Chs w' vc (t.does a).2.x.chs := by
  by_cases k0 : a.k = 0
  · exact do0_any h a hs hn k0
  by_cases k1 : a.k = 1
  · exact do1_any h a hs hn k1
  by_cases k2 : a.k = 2
  · exact do2_any h a hs hn k2
  by_cases k3 : a.k = 3
  · exact do3_any h a hs hn k3
  exact do4_any h a hs hn ⟨k0, k1, k2, k3⟩
end
end Go.Proofs.Ytjladlniilacjaa
