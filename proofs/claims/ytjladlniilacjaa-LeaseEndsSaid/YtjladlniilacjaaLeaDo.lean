/-
  The law's package for lease: do.
-/
import Derived.Test.YtjladlniilacjaaLeaExpire
namespace Go.Proofs.Ytjladlniilacjaa
open Go.RowKit Go.Proofs.Lea
set_option linter.unusedVariables false
set_option linter.unusedSimpArgs false
abbrev Deed := Go.Proofs.Lea.Act
abbrev Tld := Go.Proofs.Lea.Told
/-- What an act tells, cell by cell. -/
def toldC (x : Tld) (va : Value) : Array Value := #[.int .i64 x.e, .int .i64 x.n, .string x.text, .int .i64 x.s.id, .int .i64 x.s.block, .int .i64 x.s.dead, .int .i64 x.s.last, va]
theorem results_told {fn : Func} {s : Tmp} (h : fn.results = #[.cell s 32]) (tmps : Array Value) (w : World) (g : Nat) (h4 : tmps[s]?.getD undef = .pointer (some ⟨g, 0, none⟩)) {a0 a1 a2 a3 a4 a5 a6 a7 : Value} (k : Blk w g 32 #[a0, a1, a2, a3, a4, a5, a6, a7]) :
    (results fn tmps).run Try.prog w = .ok (.agg #[a0, a1, a2, a3, a4, a5, a6, a7]) w := by
  have ag : ∀ w : World, (isAgg 32).run Try.prog w = .ok true w := fun w => by kernel_rfl
  have e : ∀ k, (⟨g, 0, none⟩ : Addr).add k = ⟨g, k, none⟩ := fun k => by rw [Addr.add_mid, Nat.zero_add]
  have c0 : w.cell? ⟨g, 0, none⟩ = some a0 := by rw [k.cell]; rfl
  have c1 : w.cell? ⟨g, 1, none⟩ = some a1 := by rw [k.cell]; rfl
  have c2 : w.cell? ⟨g, 2, none⟩ = some a2 := by rw [k.cell]; rfl
  have c3 : w.cell? ⟨g, 3, none⟩ = some a3 := by rw [k.cell]; rfl
  have c4 : w.cell? ⟨g, 4, none⟩ = some a4 := by rw [k.cell]; rfl
  have c5 : w.cell? ⟨g, 5, none⟩ = some a5 := by rw [k.cell]; rfl
  have c6 : w.cell? ⟨g, 6, none⟩ = some a6 := by rw [k.cell]; rfl
  have c7 : w.cell? ⟨g, 7, none⟩ = some a7 := by rw [k.cell]; rfl
  have ld : (loadCells ⟨g, 0, none⟩ 8).run Try.prog w = .ok #[a0, a1, a2, a3, a4, a5, a6, a7] w := by
    simp [loadCells, loadCellsFrom, c0, c1, c2, c3, c4, c5, c6, c7, Result.andThen, e]
  have cs : Try.prog.cellsOf 32 = 8 := by kernel_rfl
  simp [results, h, h4, loadVar, ag, asAddr, ld, cs, Result.andThen]
section
variable {B m : Nat} {t t' : Tbl} {vs : Nat → Value} {ve : Value} {w w1 w2 : World}
/-- A call, and what is stored behind it into blocks that were made ahead of it. -/
theorem do_end {N1 N2 n : Nat} {va : Value} {xs : List Value} {W3 w4 w5 : World} (h : Lt B m t vs ve w) (h3 : Below w.heap.size w W3) (hN1 : w.heap.size ≤ N1) (hN2 : w.heap.size ≤ N2) (hM1 : N1 < W3.heap.size) (hM2 : N2 < W3.heap.size)
    (S : Stp B m vs ve W3 t' w4) (hr : w4.ownsRow W3.heap.size 29 4 va n xs) (F : Far (fun j => j = N1 ∨ j = N2) w4 w5) :
    Stp B m vs ve w t' w5 ∧ w5.ownsRow w.heap.size 29 4 va n xs ∧ ∀ b, va.ownBlock = some b → ¬ OwnL m vs ve b := by
  obtain ⟨vs', ve', L, F1, O⟩ := S
  have hs := h3.size
  have hno : ∀ k, OwnL m vs' ve' k → ¬ (k = N1 ∨ k = N2) := fun k hk e => by
    rcases O k hk with h1 | h1
    · have := (h.own k h1).2
      rcases e with rfl | rfl <;> omega
    · rcases e with rfl | rfl <;> omega
  refine ⟨⟨vs', ve', L.far F hno, (((far_of_below h3).mono (S' := OwnL m vs ve) (fun _ _ e => e.elim)).trans F1 (fun _ _ e => e)).trans F (fun i hi e => ?_), fun k hk => (O k hk).imp (fun h => h) (fun h => by omega)⟩, ownsRow_base (own_far hr F (fun b hb e => ?_)) hs, fun b hb e => ?_⟩
  · rcases e with rfl | rfl <;> omega
  · have := (hr.lt b hb).1
    rcases e with rfl | rfl <;> omega
  · have := (hr.lt b hb).1
    have := (h.own b e).2
    omega
/-- Three blocks, made one behind the other. -/
structure Thr (w W3 : World) (a : Deed) : Prop where
  b : Below w.heap.size w W3
  s : W3.heap.size = w.heap.size + 1 + 1 + 1
  k0 : Blk W3 w.heap.size 35 #[.int .i64 a.k, .int .i64 a.id, .int .i64 a.block, .int .i64 a.clock, .int .i64 a.seq, .string a.text]
  k1 : Blk W3 (w.heap.size + 1) 32 #[.int .i64 0, .int .i64 0, .string ⟨#[]⟩, .int .i64 0, .int .i64 0, .int .i64 0, .int .i64 0, .slice none 0 0]
  k2 : Blk W3 (w.heap.size + 1 + 1) 32 #[.int .i64 0, .int .i64 0, .string ⟨#[]⟩, .int .i64 0, .int .i64 0, .int .i64 0, .int .i64 0, .slice none 0 0]
theorem thr (w : World) (a : Deed) : Thr w (((w.alloc (.cells #[.int .i64 a.k, .int .i64 a.id, .int .i64 a.block, .int .i64 a.clock, .int .i64 a.seq, .string a.text] 35)).alloc (.cells #[.int .i64 0, .int .i64 0, .string ⟨#[]⟩, .int .i64 0, .int .i64 0, .int .i64 0, .int .i64 0, .slice none 0 0] 32)).alloc (.cells #[.int .i64 0, .int .i64 0, .string ⟨#[]⟩, .int .i64 0, .int .i64 0, .int .i64 0, .int .i64 0, .slice none 0 0] 32)) a := by
  refine ⟨((((Bl.start w).alloc _).alloc _).alloc _).1, by simp, ((Blk.new w _ _).alloc _).alloc _, ?_, ?_⟩
  · have := (Blk.new (w.alloc (.cells #[.int .i64 a.k, .int .i64 a.id, .int .i64 a.block, .int .i64 a.clock, .int .i64 a.seq, .string a.text] 35)) 32 #[.int .i64 0, .int .i64 0, .string ⟨#[]⟩, .int .i64 0, .int .i64 0, .int .i64 0, .int .i64 0, .slice none 0 0]).alloc (.cells #[.int .i64 0, .int .i64 0, .string ⟨#[]⟩, .int .i64 0, .int .i64 0, .int .i64 0, .int .i64 0, .slice none 0 0] 32)
    simpa using this
  · have := Blk.new ((w.alloc (.cells #[.int .i64 a.k, .int .i64 a.id, .int .i64 a.block, .int .i64 a.clock, .int .i64 a.seq, .string a.text] 35)).alloc (.cells #[.int .i64 0, .int .i64 0, .string ⟨#[]⟩, .int .i64 0, .int .i64 0, .int .i64 0, .int .i64 0, .slice none 0 0] 32)) 32 #[.int .i64 0, .int .i64 0, .string ⟨#[]⟩, .int .i64 0, .int .i64 0, .int .i64 0, .int .i64 0, .slice none 0 0]
    simpa using this
/-- The two blocks of what is told lie as they were made. -/
theorem thr_held {W3 w4 : World} {a : Deed} (h : Lt B m t vs ve w) (T : Thr w W3 a) (S : Stp B m vs ve W3 t' w4) : Blk w4 (w.heap.size + 1) 32 #[.int .i64 0, .int .i64 0, .string ⟨#[]⟩, .int .i64 0, .int .i64 0, .int .i64 0, .int .i64 0, .slice none 0 0] ∧ Blk w4 (w.heap.size + 1 + 1) 32 #[.int .i64 0, .int .i64 0, .string ⟨#[]⟩, .int .i64 0, .int .i64 0, .int .i64 0, .int .i64 0, .slice none 0 0] ∧ (w.heap.size + 1 < W3.heap.size ∧ w.heap.size + 1 + 1 < W3.heap.size) := by
  obtain ⟨vs', ve', L, F, O⟩ := S
  exact ⟨T.k1.far F (fun e => by have := (h.own _ e).2; omega), T.k2.far F (fun e => by have := (h.own _ e).2; omega), by have := T.s; omega, by have := T.s; omega⟩
set_option maxRecDepth 100000 in
set_option maxHeartbeats 4000000 in
theorem do0_any (h : Lt B m t vs ve w) (a : Deed) (hk : a.k = 0) (hc : 0 ≤ a.clock ∧ a.clock ≤ 1000000) :
    Calls Try.prog 14 #[.pointer (some ⟨m, 0, none⟩), .agg #[.int .i64 a.k, .int .i64 a.id, .int .i64 a.block, .int .i64 a.clock, .int .i64 a.seq, .string a.text]] w fun e w' => ∃ va, e = .returned (.agg (toldC (t.does a).2 va)) ∧ Stp B m vs ve w (t.does a).1 w' ∧ w'.ownsRow w.heap.size 29 4 va (t.does a).2.all.length (flatS (t.does a).2.all) ∧ ∀ b, va.ownBlock = some b → ¬ OwnL m vs ve b := by
  have TH := Lib.hid (thr w a)
  have HL := Lib.hid h
  have H3 := Lib.hid (h.below TH.out.b)
  have CA := Lib.hid (open_any H3.out a.block a.clock hc)
  have hdo : t.does a = ((t.opens a.block a.clock).1, ⟨(t.opens a.block a.clock).2.2, (t.opens a.block a.clock).2.1, ⟨#[]⟩, s0, []⟩) := by
    unfold Tbl.does
    rw [if_pos hk]
  rw [hdo]
  simp only
  obtain ⟨k, id, block, clock, seq, text⟩ := a
  simp only at hk CA TH H3 ⊢
  subst hk
  clear h hdo hc
  obtain ⟨rn, hrn⟩ : ∃ z, z = (t.opens block clock).2.1 := ⟨_, rfl⟩
  obtain ⟨re, hre⟩ : ∃ z, z = (t.opens block clock).2.2 := ⟨_, rfl⟩
  rw [← hrn, ← hre] at CA ⊢
  clear hrn hre
  go_enter Try.func14, Try.ntmps14
  go_wp2_with ((go_at_call 24; refine CA.out.mono ?_; rintro e w4 ⟨rfl, hS⟩; (have S4 := Lib.hid hS); (have HH := thr_held HL.out TH.out S4.out); (have K1 := Lib.hid HH.1); (have K2 := Lib.hid HH.2.1); (have HM := Lib.hid HH.2.2); (have p0 := K1.out.cell 0); (have p1 := K1.out.cell 1); (have p2 := K1.out.cell 2); (have p3 := K1.out.cell 3); (have p4 := K1.out.cell 4); (have p5 := K1.out.cell 5); (have p6 := K1.out.cell 6); (have p7 := K1.out.cell 7); (have q0 := K2.out.cell 0); (have q1 := K2.out.cell 1); (have q2 := K2.out.cell 2); (have q3 := K2.out.cell 3); (have q4 := K2.out.cell 4); (have q5 := K2.out.cell 5); (have q6 := K2.out.cell 6); (have q7 := K2.out.cell 7); (have r0 := K1.out.frozen 0); (have r1 := K1.out.frozen 1); (have r2 := K1.out.frozen 2); (have r3 := K1.out.frozen 3); (have r4 := K1.out.frozen 4); (have r5 := K1.out.frozen 5); (have r6 := K1.out.frozen 6); (have r7 := K1.out.frozen 7); (have s0 := K2.out.frozen 0); (have s1 := K2.out.frozen 1); (have s2 := K2.out.frozen 2); (have s3 := K2.out.frozen 3); (have s4 := K2.out.frozen 4); (have s5 := K2.out.frozen 5); (have s6 := K2.out.frozen 6); (have s7 := K2.out.frozen 7); clear HH hS))
  have KF := (Blk.set (Blk.set (Blk.set (Blk.set (Blk.set (Blk.set (Blk.set (Blk.set (Blk.other (p := ⟨w.heap.size + 1 + 1, 0, none⟩) (Blk.other (p := ⟨w.heap.size + 1 + 1, 1, none⟩) K1.out (by simp) (.int .i64 rn)) (by simp) (.int .i64 re)) 0 (.int .i64 re)) 1 (.int .i64 rn)) 2 (.string ⟨#[]⟩)) 3 (.int .i64 0)) 4 (.int .i64 0)) 5 (.int .i64 0)) 6 (.int .i64 0)) 7 (.slice none 0 0))
  have FF := (Far.setCell (p := ⟨w.heap.size + 1, 7, none⟩) (Far.setCell (p := ⟨w.heap.size + 1, 6, none⟩) (Far.setCell (p := ⟨w.heap.size + 1, 5, none⟩) (Far.setCell (p := ⟨w.heap.size + 1, 4, none⟩) (Far.setCell (p := ⟨w.heap.size + 1, 3, none⟩) (Far.setCell (p := ⟨w.heap.size + 1, 2, none⟩) (Far.setCell (p := ⟨w.heap.size + 1, 1, none⟩) (Far.setCell (p := ⟨w.heap.size + 1, 0, none⟩) (Far.setCell (p := ⟨w.heap.size + 1 + 1, 0, none⟩) (Far.setCell (p := ⟨w.heap.size + 1 + 1, 1, none⟩) (Far.refl (fun j => j = w.heap.size + 1 ∨ j = w.heap.size + 1 + 1) w4) (fun _ => .inr rfl) (.int .i64 rn)) (fun _ => .inr rfl) (.int .i64 re)) (fun _ => .inl rfl) (.int .i64 re)) (fun _ => .inl rfl) (.int .i64 rn)) (fun _ => .inl rfl) (.string ⟨#[]⟩)) (fun _ => .inl rfl) (.int .i64 0)) (fun _ => .inl rfl) (.int .i64 0)) (fun _ => .inl rfl) (.int .i64 0)) (fun _ => .inl rfl) (.int .i64 0)) (fun _ => .inl rfl) (.slice none 0 0))
  refine bodyPost_ret (results_told (g := w.heap.size + 1) rfl _ _ rfl KF) rfl ⟨.slice none 0 0, rfl, ?_⟩
  exact do_end HL.out TH.out.b (by omega) (by omega) HM.out.1 HM.out.2 S4.out (ownsRow_nil _ _ _ _) FF
set_option maxRecDepth 100000 in
set_option maxHeartbeats 4000000 in
theorem do1_any (h : Lt B m t vs ve w) (a : Deed) (hk : a.k = 1) :
    Calls Try.prog 14 #[.pointer (some ⟨m, 0, none⟩), .agg #[.int .i64 a.k, .int .i64 a.id, .int .i64 a.block, .int .i64 a.clock, .int .i64 a.seq, .string a.text]] w fun e w' => ∃ va, e = .returned (.agg (toldC (t.does a).2 va)) ∧ Stp B m vs ve w (t.does a).1 w' ∧ w'.ownsRow w.heap.size 29 4 va (t.does a).2.all.length (flatS (t.does a).2.all) ∧ ∀ b, va.ownBlock = some b → ¬ OwnL m vs ve b := by
  have TH := Lib.hid (thr w a)
  have HL := Lib.hid h
  have H3 := Lib.hid (h.below TH.out.b)
  have CA := Lib.hid ((finds_any H3.out a.id a.clock).mono fun e w4 h => And.intro h.1 (Stp.same H3.out h.2))
  have hdo : t.does a = (t, ⟨(t.finds a.id a.clock).2, 0, ⟨#[]⟩, (t.finds a.id a.clock).1, []⟩) := by
    unfold Tbl.does
    rw [if_neg (by omega), if_pos hk]
  rw [hdo]
  simp only
  obtain ⟨k, id, block, clock, seq, text⟩ := a
  simp only at hk CA TH H3 ⊢
  subst hk
  clear h hdo
  obtain ⟨rs, hrs⟩ : ∃ z, z = (t.finds id clock).1 := ⟨_, rfl⟩
  obtain ⟨re, hre⟩ : ∃ z, z = (t.finds id clock).2 := ⟨_, rfl⟩
  rw [← hrs, ← hre] at CA ⊢
  clear hrs hre
  go_enter Try.func14, Try.ntmps14
  go_wp2_with ((go_at_call 18; refine CA.out.mono ?_; rintro e w4 ⟨rfl, hS⟩; (have S4 := Lib.hid hS); (have HH := thr_held HL.out TH.out S4.out); (have K1 := Lib.hid HH.1); (have K2 := Lib.hid HH.2.1); (have HM := Lib.hid HH.2.2); (have p0 := K1.out.cell 0); (have p1 := K1.out.cell 1); (have p2 := K1.out.cell 2); (have p3 := K1.out.cell 3); (have p4 := K1.out.cell 4); (have p5 := K1.out.cell 5); (have p6 := K1.out.cell 6); (have p7 := K1.out.cell 7); (have q0 := K2.out.cell 0); (have q1 := K2.out.cell 1); (have q2 := K2.out.cell 2); (have q3 := K2.out.cell 3); (have q4 := K2.out.cell 4); (have q5 := K2.out.cell 5); (have q6 := K2.out.cell 6); (have q7 := K2.out.cell 7); (have r0 := K1.out.frozen 0); (have r1 := K1.out.frozen 1); (have r2 := K1.out.frozen 2); (have r3 := K1.out.frozen 3); (have r4 := K1.out.frozen 4); (have r5 := K1.out.frozen 5); (have r6 := K1.out.frozen 6); (have r7 := K1.out.frozen 7); (have s0 := K2.out.frozen 0); (have s1 := K2.out.frozen 1); (have s2 := K2.out.frozen 2); (have s3 := K2.out.frozen 3); (have s4 := K2.out.frozen 4); (have s5 := K2.out.frozen 5); (have s6 := K2.out.frozen 6); (have s7 := K2.out.frozen 7); clear HH hS))
  have KF := (Blk.set (Blk.set (Blk.set (Blk.set (Blk.set (Blk.set (Blk.set (Blk.set (Blk.other (p := ⟨w.heap.size + 1 + 1, 0, none⟩) (Blk.other (p := ⟨w.heap.size + 1 + 1, 6, none⟩) (Blk.other (p := ⟨w.heap.size + 1 + 1, 5, none⟩) (Blk.other (p := ⟨w.heap.size + 1 + 1, 4, none⟩) (Blk.other (p := ⟨w.heap.size + 1 + 1, 3, none⟩) K1.out (by simp) (.int .i64 rs.id)) (by simp) (.int .i64 rs.block)) (by simp) (.int .i64 rs.dead)) (by simp) (.int .i64 rs.last)) (by simp) (.int .i64 re)) 0 (.int .i64 re)) 1 (.int .i64 0)) 2 (.string ⟨#[]⟩)) 3 (.int .i64 rs.id)) 4 (.int .i64 rs.block)) 5 (.int .i64 rs.dead)) 6 (.int .i64 rs.last)) 7 (.slice none 0 0))
  have FF := (Far.setCell (p := ⟨w.heap.size + 1, 7, none⟩) (Far.setCell (p := ⟨w.heap.size + 1, 6, none⟩) (Far.setCell (p := ⟨w.heap.size + 1, 5, none⟩) (Far.setCell (p := ⟨w.heap.size + 1, 4, none⟩) (Far.setCell (p := ⟨w.heap.size + 1, 3, none⟩) (Far.setCell (p := ⟨w.heap.size + 1, 2, none⟩) (Far.setCell (p := ⟨w.heap.size + 1, 1, none⟩) (Far.setCell (p := ⟨w.heap.size + 1, 0, none⟩) (Far.setCell (p := ⟨w.heap.size + 1 + 1, 0, none⟩) (Far.setCell (p := ⟨w.heap.size + 1 + 1, 6, none⟩) (Far.setCell (p := ⟨w.heap.size + 1 + 1, 5, none⟩) (Far.setCell (p := ⟨w.heap.size + 1 + 1, 4, none⟩) (Far.setCell (p := ⟨w.heap.size + 1 + 1, 3, none⟩) (Far.refl (fun j => j = w.heap.size + 1 ∨ j = w.heap.size + 1 + 1) w4) (fun _ => .inr rfl) (.int .i64 rs.id)) (fun _ => .inr rfl) (.int .i64 rs.block)) (fun _ => .inr rfl) (.int .i64 rs.dead)) (fun _ => .inr rfl) (.int .i64 rs.last)) (fun _ => .inr rfl) (.int .i64 re)) (fun _ => .inl rfl) (.int .i64 re)) (fun _ => .inl rfl) (.int .i64 0)) (fun _ => .inl rfl) (.string ⟨#[]⟩)) (fun _ => .inl rfl) (.int .i64 rs.id)) (fun _ => .inl rfl) (.int .i64 rs.block)) (fun _ => .inl rfl) (.int .i64 rs.dead)) (fun _ => .inl rfl) (.int .i64 rs.last)) (fun _ => .inl rfl) (.slice none 0 0))
  refine bodyPost_ret (results_told (g := w.heap.size + 1) rfl _ _ rfl KF) rfl ⟨.slice none 0 0, rfl, ?_⟩
  exact do_end HL.out TH.out.b (by omega) (by omega) HM.out.1 HM.out.2 S4.out (ownsRow_nil _ _ _ _) FF
set_option maxRecDepth 100000 in
set_option maxHeartbeats 4000000 in
theorem do2_any (h : Lt B m t vs ve w) (a : Deed) (hk : a.k = 2) (hc : 0 ≤ a.clock ∧ a.clock ≤ 1000000) :
    Calls Try.prog 14 #[.pointer (some ⟨m, 0, none⟩), .agg #[.int .i64 a.k, .int .i64 a.id, .int .i64 a.block, .int .i64 a.clock, .int .i64 a.seq, .string a.text]] w fun e w' => ∃ va, e = .returned (.agg (toldC (t.does a).2 va)) ∧ Stp B m vs ve w (t.does a).1 w' ∧ w'.ownsRow w.heap.size 29 4 va (t.does a).2.all.length (flatS (t.does a).2.all) ∧ ∀ b, va.ownBlock = some b → ¬ OwnL m vs ve b := by
  have TH := Lib.hid (thr w a)
  have HL := Lib.hid h
  have H3 := Lib.hid (h.below TH.out.b)
  have CA := Lib.hid (renew_any H3.out a.id a.clock hc)
  have hdo : t.does a = ((t.renew a.id a.clock).1, ⟨(t.renew a.id a.clock).2, 0, ⟨#[]⟩, s0, []⟩) := by
    unfold Tbl.does
    rw [if_neg (by omega), if_neg (by omega), if_pos hk]
  rw [hdo]
  simp only
  obtain ⟨k, id, block, clock, seq, text⟩ := a
  simp only at hk CA TH H3 ⊢
  subst hk
  clear h hdo hc
  obtain ⟨re, hre⟩ : ∃ z, z = (t.renew id clock).2 := ⟨_, rfl⟩
  rw [← hre] at CA ⊢
  clear hre
  go_enter Try.func14, Try.ntmps14
  go_wp2_with ((go_at_call 19; refine CA.out.mono ?_; rintro e w4 ⟨rfl, hS⟩; (have S4 := Lib.hid hS); (have HH := thr_held HL.out TH.out S4.out); (have K1 := Lib.hid HH.1); (have K2 := Lib.hid HH.2.1); (have HM := Lib.hid HH.2.2); (have p0 := K1.out.cell 0); (have p1 := K1.out.cell 1); (have p2 := K1.out.cell 2); (have p3 := K1.out.cell 3); (have p4 := K1.out.cell 4); (have p5 := K1.out.cell 5); (have p6 := K1.out.cell 6); (have p7 := K1.out.cell 7); (have q0 := K2.out.cell 0); (have q1 := K2.out.cell 1); (have q2 := K2.out.cell 2); (have q3 := K2.out.cell 3); (have q4 := K2.out.cell 4); (have q5 := K2.out.cell 5); (have q6 := K2.out.cell 6); (have q7 := K2.out.cell 7); (have r0 := K1.out.frozen 0); (have r1 := K1.out.frozen 1); (have r2 := K1.out.frozen 2); (have r3 := K1.out.frozen 3); (have r4 := K1.out.frozen 4); (have r5 := K1.out.frozen 5); (have r6 := K1.out.frozen 6); (have r7 := K1.out.frozen 7); (have s0 := K2.out.frozen 0); (have s1 := K2.out.frozen 1); (have s2 := K2.out.frozen 2); (have s3 := K2.out.frozen 3); (have s4 := K2.out.frozen 4); (have s5 := K2.out.frozen 5); (have s6 := K2.out.frozen 6); (have s7 := K2.out.frozen 7); clear HH hS))
  have KF := (Blk.set (Blk.set (Blk.set (Blk.set (Blk.set (Blk.set (Blk.set (Blk.set (Blk.other (p := ⟨w.heap.size + 1 + 1, 0, none⟩) K1.out (by simp) (.int .i64 re)) 0 (.int .i64 re)) 1 (.int .i64 0)) 2 (.string ⟨#[]⟩)) 3 (.int .i64 0)) 4 (.int .i64 0)) 5 (.int .i64 0)) 6 (.int .i64 0)) 7 (.slice none 0 0))
  have FF := (Far.setCell (p := ⟨w.heap.size + 1, 7, none⟩) (Far.setCell (p := ⟨w.heap.size + 1, 6, none⟩) (Far.setCell (p := ⟨w.heap.size + 1, 5, none⟩) (Far.setCell (p := ⟨w.heap.size + 1, 4, none⟩) (Far.setCell (p := ⟨w.heap.size + 1, 3, none⟩) (Far.setCell (p := ⟨w.heap.size + 1, 2, none⟩) (Far.setCell (p := ⟨w.heap.size + 1, 1, none⟩) (Far.setCell (p := ⟨w.heap.size + 1, 0, none⟩) (Far.setCell (p := ⟨w.heap.size + 1 + 1, 0, none⟩) (Far.refl (fun j => j = w.heap.size + 1 ∨ j = w.heap.size + 1 + 1) w4) (fun _ => .inr rfl) (.int .i64 re)) (fun _ => .inl rfl) (.int .i64 re)) (fun _ => .inl rfl) (.int .i64 0)) (fun _ => .inl rfl) (.string ⟨#[]⟩)) (fun _ => .inl rfl) (.int .i64 0)) (fun _ => .inl rfl) (.int .i64 0)) (fun _ => .inl rfl) (.int .i64 0)) (fun _ => .inl rfl) (.int .i64 0)) (fun _ => .inl rfl) (.slice none 0 0))
  refine bodyPost_ret (results_told (g := w.heap.size + 1) rfl _ _ rfl KF) rfl ⟨.slice none 0 0, rfl, ?_⟩
  exact do_end HL.out TH.out.b (by omega) (by omega) HM.out.1 HM.out.2 S4.out (ownsRow_nil _ _ _ _) FF
set_option maxRecDepth 100000 in
set_option maxHeartbeats 4000000 in
theorem do3_any (h : Lt B m t vs ve w) (a : Deed) (hk : a.k = 3) :
    Calls Try.prog 14 #[.pointer (some ⟨m, 0, none⟩), .agg #[.int .i64 a.k, .int .i64 a.id, .int .i64 a.block, .int .i64 a.clock, .int .i64 a.seq, .string a.text]] w fun e w' => ∃ va, e = .returned (.agg (toldC (t.does a).2 va)) ∧ Stp B m vs ve w (t.does a).1 w' ∧ w'.ownsRow w.heap.size 29 4 va (t.does a).2.all.length (flatS (t.does a).2.all) ∧ ∀ b, va.ownBlock = some b → ¬ OwnL m vs ve b := by
  have TH := Lib.hid (thr w a)
  have HL := Lib.hid h
  have H3 := Lib.hid (h.below TH.out.b)
  have CA := Lib.hid (repin_any H3.out a.id a.block a.clock)
  have hdo : t.does a = ((t.repin a.id a.block a.clock).1, ⟨(t.repin a.id a.block a.clock).2.2, (t.repin a.id a.block a.clock).2.1, ⟨#[]⟩, s0, []⟩) := by
    unfold Tbl.does
    rw [if_neg (by omega), if_neg (by omega), if_neg (by omega), if_pos hk]
  rw [hdo]
  simp only
  obtain ⟨k, id, block, clock, seq, text⟩ := a
  simp only at hk CA TH H3 ⊢
  subst hk
  clear h hdo
  obtain ⟨rn, hrn⟩ : ∃ z, z = (t.repin id block clock).2.1 := ⟨_, rfl⟩
  obtain ⟨re, hre⟩ : ∃ z, z = (t.repin id block clock).2.2 := ⟨_, rfl⟩
  rw [← hrn, ← hre] at CA ⊢
  clear hrn hre
  go_enter Try.func14, Try.ntmps14
  go_wp2_with ((go_at_call 41; refine CA.out.mono ?_; rintro e w4 ⟨rfl, hS⟩; (have S4 := Lib.hid hS); (have HH := thr_held HL.out TH.out S4.out); (have K1 := Lib.hid HH.1); (have K2 := Lib.hid HH.2.1); (have HM := Lib.hid HH.2.2); (have p0 := K1.out.cell 0); (have p1 := K1.out.cell 1); (have p2 := K1.out.cell 2); (have p3 := K1.out.cell 3); (have p4 := K1.out.cell 4); (have p5 := K1.out.cell 5); (have p6 := K1.out.cell 6); (have p7 := K1.out.cell 7); (have q0 := K2.out.cell 0); (have q1 := K2.out.cell 1); (have q2 := K2.out.cell 2); (have q3 := K2.out.cell 3); (have q4 := K2.out.cell 4); (have q5 := K2.out.cell 5); (have q6 := K2.out.cell 6); (have q7 := K2.out.cell 7); (have r0 := K1.out.frozen 0); (have r1 := K1.out.frozen 1); (have r2 := K1.out.frozen 2); (have r3 := K1.out.frozen 3); (have r4 := K1.out.frozen 4); (have r5 := K1.out.frozen 5); (have r6 := K1.out.frozen 6); (have r7 := K1.out.frozen 7); (have s0 := K2.out.frozen 0); (have s1 := K2.out.frozen 1); (have s2 := K2.out.frozen 2); (have s3 := K2.out.frozen 3); (have s4 := K2.out.frozen 4); (have s5 := K2.out.frozen 5); (have s6 := K2.out.frozen 6); (have s7 := K2.out.frozen 7); clear HH hS))
  have KF := (Blk.set (Blk.set (Blk.set (Blk.set (Blk.set (Blk.set (Blk.set (Blk.set (Blk.other (p := ⟨w.heap.size + 1 + 1, 0, none⟩) (Blk.other (p := ⟨w.heap.size + 1 + 1, 1, none⟩) K1.out (by simp) (.int .i64 rn)) (by simp) (.int .i64 re)) 0 (.int .i64 re)) 1 (.int .i64 rn)) 2 (.string ⟨#[]⟩)) 3 (.int .i64 0)) 4 (.int .i64 0)) 5 (.int .i64 0)) 6 (.int .i64 0)) 7 (.slice none 0 0))
  have FF := (Far.setCell (p := ⟨w.heap.size + 1, 7, none⟩) (Far.setCell (p := ⟨w.heap.size + 1, 6, none⟩) (Far.setCell (p := ⟨w.heap.size + 1, 5, none⟩) (Far.setCell (p := ⟨w.heap.size + 1, 4, none⟩) (Far.setCell (p := ⟨w.heap.size + 1, 3, none⟩) (Far.setCell (p := ⟨w.heap.size + 1, 2, none⟩) (Far.setCell (p := ⟨w.heap.size + 1, 1, none⟩) (Far.setCell (p := ⟨w.heap.size + 1, 0, none⟩) (Far.setCell (p := ⟨w.heap.size + 1 + 1, 0, none⟩) (Far.setCell (p := ⟨w.heap.size + 1 + 1, 1, none⟩) (Far.refl (fun j => j = w.heap.size + 1 ∨ j = w.heap.size + 1 + 1) w4) (fun _ => .inr rfl) (.int .i64 rn)) (fun _ => .inr rfl) (.int .i64 re)) (fun _ => .inl rfl) (.int .i64 re)) (fun _ => .inl rfl) (.int .i64 rn)) (fun _ => .inl rfl) (.string ⟨#[]⟩)) (fun _ => .inl rfl) (.int .i64 0)) (fun _ => .inl rfl) (.int .i64 0)) (fun _ => .inl rfl) (.int .i64 0)) (fun _ => .inl rfl) (.int .i64 0)) (fun _ => .inl rfl) (.slice none 0 0))
  refine bodyPost_ret (results_told (g := w.heap.size + 1) rfl _ _ rfl KF) rfl ⟨.slice none 0 0, rfl, ?_⟩
  exact do_end HL.out TH.out.b (by omega) (by omega) HM.out.1 HM.out.2 S4.out (ownsRow_nil _ _ _ _) FF
set_option maxRecDepth 100000 in
set_option maxHeartbeats 4000000 in
theorem do4_any (h : Lt B m t vs ve w) (a : Deed) (hk : a.k = 4) :
    Calls Try.prog 14 #[.pointer (some ⟨m, 0, none⟩), .agg #[.int .i64 a.k, .int .i64 a.id, .int .i64 a.block, .int .i64 a.clock, .int .i64 a.seq, .string a.text]] w fun e w' => ∃ va, e = .returned (.agg (toldC (t.does a).2 va)) ∧ Stp B m vs ve w (t.does a).1 w' ∧ w'.ownsRow w.heap.size 29 4 va (t.does a).2.all.length (flatS (t.does a).2.all) ∧ ∀ b, va.ownBlock = some b → ¬ OwnL m vs ve b := by
  have TH := Lib.hid (thr w a)
  have HL := Lib.hid h
  have H3 := Lib.hid (h.below TH.out.b)
  have CA := Lib.hid (release_any H3.out a.id a.clock)
  have hdo : t.does a = ((t.release a.id a.clock).1, ⟨(t.release a.id a.clock).2.2, (t.release a.id a.clock).2.1, ⟨#[]⟩, s0, []⟩) := by
    unfold Tbl.does
    rw [if_neg (by omega), if_neg (by omega), if_neg (by omega), if_neg (by omega), if_pos hk]
  rw [hdo]
  simp only
  obtain ⟨k, id, block, clock, seq, text⟩ := a
  simp only at hk CA TH H3 ⊢
  subst hk
  clear h hdo
  obtain ⟨rn, hrn⟩ : ∃ z, z = (t.release id clock).2.1 := ⟨_, rfl⟩
  obtain ⟨re, hre⟩ : ∃ z, z = (t.release id clock).2.2 := ⟨_, rfl⟩
  rw [← hrn, ← hre] at CA ⊢
  clear hrn hre
  go_enter Try.func14, Try.ntmps14
  go_wp2_with ((go_at_call 21; refine CA.out.mono ?_; rintro e w4 ⟨rfl, hS⟩; (have S4 := Lib.hid hS); (have HH := thr_held HL.out TH.out S4.out); (have K1 := Lib.hid HH.1); (have K2 := Lib.hid HH.2.1); (have HM := Lib.hid HH.2.2); (have p0 := K1.out.cell 0); (have p1 := K1.out.cell 1); (have p2 := K1.out.cell 2); (have p3 := K1.out.cell 3); (have p4 := K1.out.cell 4); (have p5 := K1.out.cell 5); (have p6 := K1.out.cell 6); (have p7 := K1.out.cell 7); (have q0 := K2.out.cell 0); (have q1 := K2.out.cell 1); (have q2 := K2.out.cell 2); (have q3 := K2.out.cell 3); (have q4 := K2.out.cell 4); (have q5 := K2.out.cell 5); (have q6 := K2.out.cell 6); (have q7 := K2.out.cell 7); (have r0 := K1.out.frozen 0); (have r1 := K1.out.frozen 1); (have r2 := K1.out.frozen 2); (have r3 := K1.out.frozen 3); (have r4 := K1.out.frozen 4); (have r5 := K1.out.frozen 5); (have r6 := K1.out.frozen 6); (have r7 := K1.out.frozen 7); (have s0 := K2.out.frozen 0); (have s1 := K2.out.frozen 1); (have s2 := K2.out.frozen 2); (have s3 := K2.out.frozen 3); (have s4 := K2.out.frozen 4); (have s5 := K2.out.frozen 5); (have s6 := K2.out.frozen 6); (have s7 := K2.out.frozen 7); clear HH hS))
  have KF := (Blk.set (Blk.set (Blk.set (Blk.set (Blk.set (Blk.set (Blk.set (Blk.set (Blk.other (p := ⟨w.heap.size + 1 + 1, 0, none⟩) (Blk.other (p := ⟨w.heap.size + 1 + 1, 1, none⟩) K1.out (by simp) (.int .i64 rn)) (by simp) (.int .i64 re)) 0 (.int .i64 re)) 1 (.int .i64 rn)) 2 (.string ⟨#[]⟩)) 3 (.int .i64 0)) 4 (.int .i64 0)) 5 (.int .i64 0)) 6 (.int .i64 0)) 7 (.slice none 0 0))
  have FF := (Far.setCell (p := ⟨w.heap.size + 1, 7, none⟩) (Far.setCell (p := ⟨w.heap.size + 1, 6, none⟩) (Far.setCell (p := ⟨w.heap.size + 1, 5, none⟩) (Far.setCell (p := ⟨w.heap.size + 1, 4, none⟩) (Far.setCell (p := ⟨w.heap.size + 1, 3, none⟩) (Far.setCell (p := ⟨w.heap.size + 1, 2, none⟩) (Far.setCell (p := ⟨w.heap.size + 1, 1, none⟩) (Far.setCell (p := ⟨w.heap.size + 1, 0, none⟩) (Far.setCell (p := ⟨w.heap.size + 1 + 1, 0, none⟩) (Far.setCell (p := ⟨w.heap.size + 1 + 1, 1, none⟩) (Far.refl (fun j => j = w.heap.size + 1 ∨ j = w.heap.size + 1 + 1) w4) (fun _ => .inr rfl) (.int .i64 rn)) (fun _ => .inr rfl) (.int .i64 re)) (fun _ => .inl rfl) (.int .i64 re)) (fun _ => .inl rfl) (.int .i64 rn)) (fun _ => .inl rfl) (.string ⟨#[]⟩)) (fun _ => .inl rfl) (.int .i64 0)) (fun _ => .inl rfl) (.int .i64 0)) (fun _ => .inl rfl) (.int .i64 0)) (fun _ => .inl rfl) (.int .i64 0)) (fun _ => .inl rfl) (.slice none 0 0))
  refine bodyPost_ret (results_told (g := w.heap.size + 1) rfl _ _ rfl KF) rfl ⟨.slice none 0 0, rfl, ?_⟩
  exact do_end HL.out TH.out.b (by omega) (by omega) HM.out.1 HM.out.2 S4.out (ownsRow_nil _ _ _ _) FF
set_option maxRecDepth 100000 in
set_option maxHeartbeats 4000000 in
theorem do5_any (h : Lt B m t vs ve w) (a : Deed) (hk : a.k = 5) (h8 : t.ended.length ≤ 50) :
    Calls Try.prog 14 #[.pointer (some ⟨m, 0, none⟩), .agg #[.int .i64 a.k, .int .i64 a.id, .int .i64 a.block, .int .i64 a.clock, .int .i64 a.seq, .string a.text]] w fun e w' => ∃ va, e = .returned (.agg (toldC (t.does a).2 va)) ∧ Stp B m vs ve w (t.does a).1 w' ∧ w'.ownsRow w.heap.size 29 4 va (t.does a).2.all.length (flatS (t.does a).2.all) ∧ ∀ b, va.ownBlock = some b → ¬ OwnL m vs ve b := by
  have TH := Lib.hid (thr w a)
  have HL := Lib.hid h
  have H3 := Lib.hid (h.below TH.out.b)
  have CA := Lib.hid (expire_any H3.out h8 a.clock)
  have hdo : t.does a = ((t.expire a.clock).1, ⟨0, 0, ⟨#[]⟩, s0, (t.expire a.clock).2⟩) := by
    unfold Tbl.does
    rw [if_neg (by omega), if_neg (by omega), if_neg (by omega), if_neg (by omega), if_neg (by omega), if_pos hk]
  rw [hdo]
  simp only
  obtain ⟨k, id, block, clock, seq, text⟩ := a
  simp only at hk CA TH H3 ⊢
  subst hk
  clear h hdo h8
  obtain ⟨ra, hra⟩ : ∃ z, z = (t.expire clock).2 := ⟨_, rfl⟩
  rw [← hra] at CA ⊢
  clear hra
  go_enter Try.func14, Try.ntmps14
  go_wp2_with ((go_at_call 17; refine CA.out.mono ?_; rintro e w4 ⟨v, rfl, own, hS, hno⟩; (obtain ⟨A5, n5, c5, rfl⟩ := own_slice own); (have OW := Lib.hid own); (clear own hno); (have S4 := Lib.hid hS); (have HH := thr_held HL.out TH.out S4.out); (have K1 := Lib.hid HH.1); (have K2 := Lib.hid HH.2.1); (have HM := Lib.hid HH.2.2); (have p0 := K1.out.cell 0); (have p1 := K1.out.cell 1); (have p2 := K1.out.cell 2); (have p3 := K1.out.cell 3); (have p4 := K1.out.cell 4); (have p5 := K1.out.cell 5); (have p6 := K1.out.cell 6); (have p7 := K1.out.cell 7); (have q0 := K2.out.cell 0); (have q1 := K2.out.cell 1); (have q2 := K2.out.cell 2); (have q3 := K2.out.cell 3); (have q4 := K2.out.cell 4); (have q5 := K2.out.cell 5); (have q6 := K2.out.cell 6); (have q7 := K2.out.cell 7); (have r0 := K1.out.frozen 0); (have r1 := K1.out.frozen 1); (have r2 := K1.out.frozen 2); (have r3 := K1.out.frozen 3); (have r4 := K1.out.frozen 4); (have r5 := K1.out.frozen 5); (have r6 := K1.out.frozen 6); (have r7 := K1.out.frozen 7); (have s0 := K2.out.frozen 0); (have s1 := K2.out.frozen 1); (have s2 := K2.out.frozen 2); (have s3 := K2.out.frozen 3); (have s4 := K2.out.frozen 4); (have s5 := K2.out.frozen 5); (have s6 := K2.out.frozen 6); (have s7 := K2.out.frozen 7); clear HH hS))
  have KF := (Blk.set (Blk.set (Blk.set (Blk.set (Blk.set (Blk.set (Blk.set (Blk.set (Blk.other (p := ⟨w.heap.size + 1 + 1, 7, none⟩) K1.out (by simp) (.slice A5 n5 c5)) 0 (.int .i64 0)) 1 (.int .i64 0)) 2 (.string ⟨#[]⟩)) 3 (.int .i64 0)) 4 (.int .i64 0)) 5 (.int .i64 0)) 6 (.int .i64 0)) 7 (.slice A5 n5 c5))
  have FF := (Far.setCell (p := ⟨w.heap.size + 1, 7, none⟩) (Far.setCell (p := ⟨w.heap.size + 1, 6, none⟩) (Far.setCell (p := ⟨w.heap.size + 1, 5, none⟩) (Far.setCell (p := ⟨w.heap.size + 1, 4, none⟩) (Far.setCell (p := ⟨w.heap.size + 1, 3, none⟩) (Far.setCell (p := ⟨w.heap.size + 1, 2, none⟩) (Far.setCell (p := ⟨w.heap.size + 1, 1, none⟩) (Far.setCell (p := ⟨w.heap.size + 1, 0, none⟩) (Far.setCell (p := ⟨w.heap.size + 1 + 1, 7, none⟩) (Far.refl (fun j => j = w.heap.size + 1 ∨ j = w.heap.size + 1 + 1) w4) (fun _ => .inr rfl) (.slice A5 n5 c5)) (fun _ => .inl rfl) (.int .i64 0)) (fun _ => .inl rfl) (.int .i64 0)) (fun _ => .inl rfl) (.string ⟨#[]⟩)) (fun _ => .inl rfl) (.int .i64 0)) (fun _ => .inl rfl) (.int .i64 0)) (fun _ => .inl rfl) (.int .i64 0)) (fun _ => .inl rfl) (.int .i64 0)) (fun _ => .inl rfl) (.slice A5 n5 c5))
  refine bodyPost_ret (results_told (g := w.heap.size + 1) rfl _ _ rfl KF) rfl ⟨.slice A5 n5 c5, rfl, ?_⟩
  exact do_end HL.out TH.out.b (by omega) (by omega) HM.out.1 HM.out.2 S4.out OW.out FF
set_option maxRecDepth 100000 in
set_option maxHeartbeats 4000000 in
theorem do6_any (h : Lt B m t vs ve w) (a : Deed) (hk : a.k = 6) (hk2 : ∀ i, i < 4 → (t.sl i).kept.length ≤ 2) :
    Calls Try.prog 14 #[.pointer (some ⟨m, 0, none⟩), .agg #[.int .i64 a.k, .int .i64 a.id, .int .i64 a.block, .int .i64 a.clock, .int .i64 a.seq, .string a.text]] w fun e w' => ∃ va, e = .returned (.agg (toldC (t.does a).2 va)) ∧ Stp B m vs ve w (t.does a).1 w' ∧ w'.ownsRow w.heap.size 29 4 va (t.does a).2.all.length (flatS (t.does a).2.all) ∧ ∀ b, va.ownBlock = some b → ¬ OwnL m vs ve b := by
  have TH := Lib.hid (thr w a)
  have HL := Lib.hid h
  have H3 := Lib.hid (h.below TH.out.b)
  have CA := Lib.hid (store_any H3.out hk2 a.id a.seq a.text)
  have hdo : t.does a = ((t.store a.id a.seq a.text).1, ⟨(t.store a.id a.seq a.text).2, 0, ⟨#[]⟩, s0, []⟩) := by
    unfold Tbl.does
    rw [if_neg (by omega), if_neg (by omega), if_neg (by omega), if_neg (by omega), if_neg (by omega), if_neg (by omega), if_pos hk]
  rw [hdo]
  simp only
  obtain ⟨k, id, block, clock, seq, text⟩ := a
  simp only at hk CA TH H3 ⊢
  subst hk
  clear h hdo hk2
  obtain ⟨re, hre⟩ : ∃ z, z = (t.store id seq text).2 := ⟨_, rfl⟩
  rw [← hre] at CA ⊢
  clear hre
  go_enter Try.func14, Try.ntmps14
  go_wp2_with ((go_at_call 23; refine CA.out.mono ?_; rintro e w4 ⟨rfl, hS⟩; (have S4 := Lib.hid hS); (have HH := thr_held HL.out TH.out S4.out); (have K1 := Lib.hid HH.1); (have K2 := Lib.hid HH.2.1); (have HM := Lib.hid HH.2.2); (have p0 := K1.out.cell 0); (have p1 := K1.out.cell 1); (have p2 := K1.out.cell 2); (have p3 := K1.out.cell 3); (have p4 := K1.out.cell 4); (have p5 := K1.out.cell 5); (have p6 := K1.out.cell 6); (have p7 := K1.out.cell 7); (have q0 := K2.out.cell 0); (have q1 := K2.out.cell 1); (have q2 := K2.out.cell 2); (have q3 := K2.out.cell 3); (have q4 := K2.out.cell 4); (have q5 := K2.out.cell 5); (have q6 := K2.out.cell 6); (have q7 := K2.out.cell 7); (have r0 := K1.out.frozen 0); (have r1 := K1.out.frozen 1); (have r2 := K1.out.frozen 2); (have r3 := K1.out.frozen 3); (have r4 := K1.out.frozen 4); (have r5 := K1.out.frozen 5); (have r6 := K1.out.frozen 6); (have r7 := K1.out.frozen 7); (have s0 := K2.out.frozen 0); (have s1 := K2.out.frozen 1); (have s2 := K2.out.frozen 2); (have s3 := K2.out.frozen 3); (have s4 := K2.out.frozen 4); (have s5 := K2.out.frozen 5); (have s6 := K2.out.frozen 6); (have s7 := K2.out.frozen 7); clear HH hS))
  have KF := (Blk.set (Blk.set (Blk.set (Blk.set (Blk.set (Blk.set (Blk.set (Blk.set (Blk.other (p := ⟨w.heap.size + 1 + 1, 0, none⟩) K1.out (by simp) (.int .i64 re)) 0 (.int .i64 re)) 1 (.int .i64 0)) 2 (.string ⟨#[]⟩)) 3 (.int .i64 0)) 4 (.int .i64 0)) 5 (.int .i64 0)) 6 (.int .i64 0)) 7 (.slice none 0 0))
  have FF := (Far.setCell (p := ⟨w.heap.size + 1, 7, none⟩) (Far.setCell (p := ⟨w.heap.size + 1, 6, none⟩) (Far.setCell (p := ⟨w.heap.size + 1, 5, none⟩) (Far.setCell (p := ⟨w.heap.size + 1, 4, none⟩) (Far.setCell (p := ⟨w.heap.size + 1, 3, none⟩) (Far.setCell (p := ⟨w.heap.size + 1, 2, none⟩) (Far.setCell (p := ⟨w.heap.size + 1, 1, none⟩) (Far.setCell (p := ⟨w.heap.size + 1, 0, none⟩) (Far.setCell (p := ⟨w.heap.size + 1 + 1, 0, none⟩) (Far.refl (fun j => j = w.heap.size + 1 ∨ j = w.heap.size + 1 + 1) w4) (fun _ => .inr rfl) (.int .i64 re)) (fun _ => .inl rfl) (.int .i64 re)) (fun _ => .inl rfl) (.int .i64 0)) (fun _ => .inl rfl) (.string ⟨#[]⟩)) (fun _ => .inl rfl) (.int .i64 0)) (fun _ => .inl rfl) (.int .i64 0)) (fun _ => .inl rfl) (.int .i64 0)) (fun _ => .inl rfl) (.int .i64 0)) (fun _ => .inl rfl) (.slice none 0 0))
  refine bodyPost_ret (results_told (g := w.heap.size + 1) rfl _ _ rfl KF) rfl ⟨.slice none 0 0, rfl, ?_⟩
  exact do_end HL.out TH.out.b (by omega) (by omega) HM.out.1 HM.out.2 S4.out (ownsRow_nil _ _ _ _) FF
set_option maxRecDepth 100000 in
set_option maxHeartbeats 4000000 in
theorem do7_any (h : Lt B m t vs ve w) (a : Deed) (hk : ¬ a.k = 0 ∧ ¬ a.k = 1 ∧ ¬ a.k = 2 ∧ ¬ a.k = 3 ∧ ¬ a.k = 4 ∧ ¬ a.k = 5 ∧ ¬ a.k = 6) :
    Calls Try.prog 14 #[.pointer (some ⟨m, 0, none⟩), .agg #[.int .i64 a.k, .int .i64 a.id, .int .i64 a.block, .int .i64 a.clock, .int .i64 a.seq, .string a.text]] w fun e w' => ∃ va, e = .returned (.agg (toldC (t.does a).2 va)) ∧ Stp B m vs ve w (t.does a).1 w' ∧ w'.ownsRow w.heap.size 29 4 va (t.does a).2.all.length (flatS (t.does a).2.all) ∧ ∀ b, va.ownBlock = some b → ¬ OwnL m vs ve b := by
  have TH := Lib.hid (thr w a)
  have HL := Lib.hid h
  have H3 := Lib.hid (h.below TH.out.b)
  have CA := Lib.hid ((replay_any H3.out a.id a.seq).mono fun e w4 h => And.intro h.1 (Stp.same H3.out h.2))
  have hdo : t.does a = (t, ⟨(t.replay a.id a.seq).2, 0, (t.replay a.id a.seq).1, s0, []⟩) := by
    unfold Tbl.does
    rw [if_neg hk.1, if_neg hk.2.1, if_neg hk.2.2.1, if_neg hk.2.2.2.1, if_neg hk.2.2.2.2.1, if_neg hk.2.2.2.2.2.1, if_neg hk.2.2.2.2.2.2]
  rw [hdo]
  simp only
  obtain ⟨k, id, block, clock, seq, text⟩ := a
  simp only at hk CA TH H3 ⊢
  have e0 : (k == 0) = false := by simpa using hk.1
  have e1 : (k == 1) = false := by simpa using hk.2.1
  have e2 : (k == 2) = false := by simpa using hk.2.2.1
  have e3 : (k == 3) = false := by simpa using hk.2.2.2.1
  have e4 : (k == 4) = false := by simpa using hk.2.2.2.2.1
  have e5 : (k == 5) = false := by simpa using hk.2.2.2.2.2.1
  have e6 : (k == 6) = false := by simpa using hk.2.2.2.2.2.2
  clear h hdo hk
  obtain ⟨rt, hrt⟩ : ∃ z, z = (t.replay id seq).1 := ⟨_, rfl⟩
  obtain ⟨re, hre⟩ : ∃ z, z = (t.replay id seq).2 := ⟨_, rfl⟩
  rw [← hrt, ← hre] at CA ⊢
  clear hrt hre
  go_enter Try.func14, Try.ntmps14
  go_wp2_with ((go_at_call 22; refine CA.out.mono ?_; rintro e w4 ⟨rfl, hS⟩; (have S4 := Lib.hid hS); (have HH := thr_held HL.out TH.out S4.out); (have K1 := Lib.hid HH.1); (have K2 := Lib.hid HH.2.1); (have HM := Lib.hid HH.2.2); (have p0 := K1.out.cell 0); (have p1 := K1.out.cell 1); (have p2 := K1.out.cell 2); (have p3 := K1.out.cell 3); (have p4 := K1.out.cell 4); (have p5 := K1.out.cell 5); (have p6 := K1.out.cell 6); (have p7 := K1.out.cell 7); (have q0 := K2.out.cell 0); (have q1 := K2.out.cell 1); (have q2 := K2.out.cell 2); (have q3 := K2.out.cell 3); (have q4 := K2.out.cell 4); (have q5 := K2.out.cell 5); (have q6 := K2.out.cell 6); (have q7 := K2.out.cell 7); (have r0 := K1.out.frozen 0); (have r1 := K1.out.frozen 1); (have r2 := K1.out.frozen 2); (have r3 := K1.out.frozen 3); (have r4 := K1.out.frozen 4); (have r5 := K1.out.frozen 5); (have r6 := K1.out.frozen 6); (have r7 := K1.out.frozen 7); (have s0 := K2.out.frozen 0); (have s1 := K2.out.frozen 1); (have s2 := K2.out.frozen 2); (have s3 := K2.out.frozen 3); (have s4 := K2.out.frozen 4); (have s5 := K2.out.frozen 5); (have s6 := K2.out.frozen 6); (have s7 := K2.out.frozen 7); clear HH hS))
  have KF := (Blk.set (Blk.set (Blk.set (Blk.set (Blk.set (Blk.set (Blk.set (Blk.set (Blk.other (p := ⟨w.heap.size + 1 + 1, 0, none⟩) (Blk.other (p := ⟨w.heap.size + 1 + 1, 2, none⟩) K1.out (by simp) (.string rt)) (by simp) (.int .i64 re)) 0 (.int .i64 re)) 1 (.int .i64 0)) 2 (.string rt)) 3 (.int .i64 0)) 4 (.int .i64 0)) 5 (.int .i64 0)) 6 (.int .i64 0)) 7 (.slice none 0 0))
  have FF := (Far.setCell (p := ⟨w.heap.size + 1, 7, none⟩) (Far.setCell (p := ⟨w.heap.size + 1, 6, none⟩) (Far.setCell (p := ⟨w.heap.size + 1, 5, none⟩) (Far.setCell (p := ⟨w.heap.size + 1, 4, none⟩) (Far.setCell (p := ⟨w.heap.size + 1, 3, none⟩) (Far.setCell (p := ⟨w.heap.size + 1, 2, none⟩) (Far.setCell (p := ⟨w.heap.size + 1, 1, none⟩) (Far.setCell (p := ⟨w.heap.size + 1, 0, none⟩) (Far.setCell (p := ⟨w.heap.size + 1 + 1, 0, none⟩) (Far.setCell (p := ⟨w.heap.size + 1 + 1, 2, none⟩) (Far.refl (fun j => j = w.heap.size + 1 ∨ j = w.heap.size + 1 + 1) w4) (fun _ => .inr rfl) (.string rt)) (fun _ => .inr rfl) (.int .i64 re)) (fun _ => .inl rfl) (.int .i64 re)) (fun _ => .inl rfl) (.int .i64 0)) (fun _ => .inl rfl) (.string rt)) (fun _ => .inl rfl) (.int .i64 0)) (fun _ => .inl rfl) (.int .i64 0)) (fun _ => .inl rfl) (.int .i64 0)) (fun _ => .inl rfl) (.int .i64 0)) (fun _ => .inl rfl) (.slice none 0 0))
  refine bodyPost_ret (results_told (g := w.heap.size + 1) rfl _ _ rfl KF) rfl ⟨.slice none 0 0, rfl, ?_⟩
  exact do_end HL.out TH.out.b (by omega) (by omega) HM.out.1 HM.out.2 S4.out (ownsRow_nil _ _ _ _) FF
end
end Go.Proofs.Ytjladlniilacjaa
