/-
  Package lease: Repin, Release, Find.
-/
import Derived.Test.YtjladlniilacjaaLeaSt
namespace Go.Proofs.Ytjladlniilacjaa
open Go.RowKit Go.Proofs.Lea
set_option linter.unusedVariables false
set_option linter.unusedSimpArgs false
section
variable {B m : Nat} {t : Tbl} {vs : Nat → Value} {ve : Value} {w : World}
theorem gotP_err (m : Nat) (e : Int) : gotP m (.err e) = .pointer none := rfl
/-- A slot that find found. -/
structure Hit (m : Nat) (t : Tbl) (vs : Nat → Value) (ve : Value) (i : Nat) (W : World) : Prop where
  c0 : W.cell? ⟨m, 2 + i * 5, none⟩ = some (.int .i64 (t.sl i).s.id)
  c1 : W.cell? ⟨m, 2 + i * 5 + 1, none⟩ = some (.int .i64 (t.sl i).s.block)
  c2 : W.cell? ⟨m, 2 + i * 5 + 2, none⟩ = some (.int .i64 (t.sl i).s.dead)
  c3 : W.cell? ⟨m, 2 + i * 5 + 3, none⟩ = some (.int .i64 (t.sl i).s.last)
  c4 : W.cell? ⟨m, 2 + i * 5 + 4, none⟩ = some (vs i)
  f : ∀ j, W.frozen? ⟨m, j, none⟩ = false
theorem Lt.hit (h : Lt B m t vs ve w) (i : Nat) (hi : i < 4) (W : World) (hb : Below w.heap.size w W) : Hit m t vs ve i W :=
  have b := h.blk.below hb
  ⟨by rw [b.cell]; exact tC_id t vs ve i hi, by rw [b.cell]; exact tC_block t vs ve i hi, by rw [b.cell]; exact tC_dead t vs ve i hi, by rw [b.cell]; exact tC_last t vs ve i hi, by rw [b.cell]; exact tC_kept t vs ve i hi, fun j => b.frozen j⟩
set_option maxRecDepth 100000 in
set_option maxHeartbeats 2000000 in
theorem repin_any (h : Lt B m t vs ve w) (id block clock : Int) :
    Calls Try.prog 41 #[.pointer (some ⟨m, 0, none⟩), .int .i64 id, .int .i64 block, .int .i64 clock] w fun e w' => e = .returned (.tuple #[.int .i64 (t.repin id block clock).2.1, .int .i64 (t.repin id block clock).2.2]) ∧ Stp B m vs ve w (t.repin id block clock).1 w' := by
  have FI := Lib.hid (h.find id clock)
  have NU := Lib.hid (fun W => number_got id clock t W)
  have HL := Lib.hid h
  unfold Tbl.repin
  cases hf : t.find id clock with
  | err e =>
    rw [hf] at FI NU
    unfold gotP gotV at FI
    unfold gotV gotE at NU
    simp only at FI NU ⊢
    clear h hf
    go_enter Try.func41, Try.ntmps41
    go_wp2_with (first
      | (go_at_call 44; refine FI.out.mono ?_; rintro e w1 ⟨rfl, hb⟩; have B1 := Lib.hid hb; clear hb)
      | (go_at_call 45; refine (NU.out _).mono ?_; rintro e w2 ⟨rfl, hb⟩; have B2 := Lib.hid hb; clear hb))
    go_ret2
    exact ⟨rfl, Stp.same HL.out (B1.out.trans (B2.out.mono B1.out.size))⟩
  | ok i =>
    obtain ⟨ht, hd, hn⟩ := find_ok hf
    obtain ⟨hi, hid, h0⟩ := there_facts ht
    rw [hf] at FI
    unfold gotP gotV slotP at FI
    simp only at FI ⊢
    have HIT := Lib.hid (fun W hb => h.hit i hi W hb)
    have OK := Lib.hid (set_ok h.ok i hi ⟨{ (t.sl i).s with block := block }, (t.sl i).kept⟩ rfl (by rw [hid]; exact h0) (h.ok.kept i hi)).1
    have SC := Lib.hid (tC_set_block t h.ok.four vs ve i hi block)
    have KE : Hid (∀ j, j < 4 → ((t.set i ⟨{ (t.sl i).s with block := block }, (t.sl i).kept⟩).sl j).kept = (t.sl j).kept) := Lib.hid (fun j _ => by
      rw [sl_set t HL.out.ok.four i hi]
      by_cases e : j = i
      · rw [if_pos e, e]
      · rw [if_neg e])
    clear h hf ht hd hn hid h0 hi NU
    obtain ⟨bb, hbb⟩ : ∃ z, z = (t.sl i).s.block := ⟨_, rfl⟩
    have HBB := Lib.hid hbb
    rw [← hbb]
    clear hbb
    go_enter Try.func41, Try.ntmps41
    go_wp2_with (first
      | (go_at_call 44; refine FI.out.mono ?_; rintro e w1 ⟨rfl, hb⟩; have B1 := Lib.hid hb; have HW := HIT.out w1 hb; have c1 := HW.c1; rw [← HBB.out] at c1; have f1 := HW.f (2 + i * 5 + 1); clear HW; clear hb))
    go_ret2
    exact ⟨rfl, Stp.cell HL.out B1.out _ _ SC.out KE.out rfl OK.out⟩
set_option maxRecDepth 100000 in
set_option maxHeartbeats 2000000 in
theorem release_any (h : Lt B m t vs ve w) (id clock : Int) :
    Calls Try.prog 21 #[.pointer (some ⟨m, 0, none⟩), .int .i64 id, .int .i64 clock] w fun e w' => e = .returned (.tuple #[.int .i64 (t.release id clock).2.1, .int .i64 (t.release id clock).2.2]) ∧ Stp B m vs ve w (t.release id clock).1 w' := by
  have FI := Lib.hid (h.find id clock)
  have NU := Lib.hid (fun W => number_got id clock t W)
  have HL := Lib.hid h
  unfold Tbl.release
  cases hf : t.find id clock with
  | err e =>
    rw [hf] at FI NU
    unfold gotP gotV at FI
    unfold gotV gotE at NU
    simp only at FI NU ⊢
    clear h hf
    go_enter Try.func21, Try.ntmps21
    go_wp2_with (first
      | (go_at_call 44; refine FI.out.mono ?_; rintro e w1 ⟨rfl, hb⟩; have B1 := Lib.hid hb; clear hb)
      | (go_at_call 45; refine (NU.out _).mono ?_; rintro e w2 ⟨rfl, hb⟩; have B2 := Lib.hid hb; clear hb))
    go_ret2
    exact ⟨rfl, Stp.same HL.out (B1.out.trans (B2.out.mono B1.out.size))⟩
  | ok i =>
    obtain ⟨ht, hd, hn⟩ := find_ok hf
    obtain ⟨hi, hid, h0⟩ := there_facts ht
    rw [hf] at FI
    unfold gotP gotV slotP at FI
    simp only at FI ⊢
    have HIT := Lib.hid (fun W hb => h.hit i hi W hb)
    clear h hf ht hd hn hid h0 NU
    obtain ⟨bb, hbb⟩ : ∃ z, z = (t.sl i).s.block := ⟨_, rfl⟩
    have HBB := Lib.hid hbb
    rw [← hbb]
    clear hbb
    go_enter Try.func21, Try.ntmps21
    go_wp2_with (first
      | (go_at_call 44; refine FI.out.mono ?_; rintro e w1 ⟨rfl, hb⟩; have B1 := Lib.hid hb; have HW := HIT.out w1 hb; have c0 := HW.c0; have c1 := HW.c1; have c2 := HW.c2; have c3 := HW.c3; have c4 := HW.c4; rw [← HBB.out] at c1; have f1 := HW.f (2 + i * 5 + 1); have f0 := HW.f (2 + i * 5); have f2 := HW.f (2 + i * 5 + 2); have f3 := HW.f (2 + i * 5 + 3); have f4 := HW.f (2 + i * 5 + 4); clear HW; clear hb))
    go_ret2
    have h1 := HL.out.below B1.out
    exact ⟨rfl, Stp.five HL.out ((far_of_below B1.out).mono (fun _ _ e => e.elim)) i hi _ h1.blk h1.rows h1.ended _ _ _ _ (tC_five t HL.out.ok.four vs ve (.slice none 0 0) i hi o0) (by rw [sl_set t HL.out.ok.four i hi, if_pos rfl]; rfl) (fun j _ e => by rw [sl_set t HL.out.ok.four i hi, if_neg e]) rfl (gone_ok HL.out.ok i hi)⟩
/-- A result that lies in four cells, and one behind it. -/
theorem results_ses {fn : Func} {s s5 : Tmp} (h : fn.results = #[.cell s 29, .tmp s5]) (tmps : Array Value) (w : World) (g o : Nat) (h4 : tmps[s]?.getD undef = .pointer (some ⟨g, o, none⟩)) {x : Value} (h5 : tmps[s5]?.getD undef = x) {a b c d : Value}
    (c0 : w.cell? ⟨g, o, none⟩ = some a) (c1 : w.cell? ⟨g, o + 1, none⟩ = some b) (c2 : w.cell? ⟨g, o + 2, none⟩ = some c) (c3 : w.cell? ⟨g, o + 3, none⟩ = some d) :
    (results fn tmps).run Try.prog w = .ok (.tuple #[.agg #[a, b, c, d], x]) w := by
  have ag : ∀ w : World, (isAgg 29).run Try.prog w = .ok true w := fun w => by kernel_rfl
  have e : ∀ k, (⟨g, o, none⟩ : Addr).add k = ⟨g, o + k, none⟩ := fun k => by rw [Addr.add_mid]
  have ld : (loadCells ⟨g, o, none⟩ 4).run Try.prog w = .ok #[a, b, c, d] w := by
    simp [loadCells, loadCellsFrom, c0, c1, c2, c3, Result.andThen, e]
  have cs : Try.prog.cellsOf 29 = 4 := by kernel_rfl
  simp [results, h, h4, h5, loadVar, ag, asAddr, ld, cs, Result.andThen]
/-- A session is stored, and handed back. -/
theorem ses_end {fn : Func} {s s5 : Tmp} {N : Nat} {w W : World} {o0 o1 o2 o3 : Value} {a b c d x : Value} (K : Blk W N 29 #[o0, o1, o2, o3]) (HB : Bl N w W) (hN : N ≤ N) (tmps : Array Value) (h4 : tmps[s]?.getD undef = .pointer (some ⟨N, 0, none⟩)) (h5 : tmps[s5]?.getD undef = x)
    (ds : List Deferred) (hds : ds = []) (h : fn.results = #[.cell s 29, .tmp s5]) :
    bodyPost Try.prog fn (fun e w' => e = .returned (.tuple #[.agg #[a, b, c, d], x]) ∧ Below N w w') .ret ⟨tmps, ds⟩ ((((W.setCell ⟨N, 0, none⟩ a).setCell ⟨N, 1, none⟩ b).setCell ⟨N, 2, none⟩ c).setCell ⟨N, 3, none⟩ d) := by
  have k := (((K.set 0 a).set 1 b).set 2 c).set 3 d
  have k2 : Blk ((((W.setCell ⟨N, 0, none⟩ a).setCell ⟨N, 1, none⟩ b).setCell ⟨N, 2, none⟩ c).setCell ⟨N, 3, none⟩ d) N 29 #[a, b, c, d] := k
  subst hds
  exact bodyPost_ret (results_ses h tmps _ N 0 h4 h5 (by rw [k2.cell]; rfl) (by rw [k2.cell]; rfl) (by rw [k2.cell]; rfl) (by rw [k2.cell]; rfl)) rfl ⟨rfl, ((((HB.setCell (p := ⟨N, 0, none⟩) hN a).setCell (p := ⟨N, 1, none⟩) hN b).setCell (p := ⟨N, 2, none⟩) hN c).setCell (p := ⟨N, 3, none⟩) hN d).1⟩
set_option maxRecDepth 100000 in
set_option maxHeartbeats 2000000 in
theorem finds_any (h : Lt B m t vs ve w) (id clock : Int) :
    Calls Try.prog 18 #[.pointer (some ⟨m, 0, none⟩), .int .i64 id, .int .i64 clock] w fun e w' => e = .returned (.tuple #[.agg #[.int .i64 (t.finds id clock).1.id, .int .i64 (t.finds id clock).1.block, .int .i64 (t.finds id clock).1.dead, .int .i64 (t.finds id clock).1.last], .int .i64 (t.finds id clock).2]) ∧ Below w.heap.size w w' := by
  have HB := Lib.hid ((Bl.start w).alloc (.cells #[.int .i64 0, .int .i64 0, .int .i64 0, .int .i64 0] 29))
  have hW := h.below HB.out.1
  have FI := Lib.hid (hW.find id clock)
  have NU := Lib.hid (fun W => number_got id clock t W)
  have KB := Lib.hid (Blk.new w 29 #[.int .i64 0, .int .i64 0, .int .i64 0, .int .i64 0])
  unfold Tbl.finds
  cases hf : t.find id clock with
  | err e =>
    rw [hf] at FI NU
    unfold gotP gotV at FI
    unfold gotV gotE at NU
    unfold s0
    simp only at FI NU ⊢
    clear h hf hW
    go_enter Try.func18, Try.ntmps18
    go_wp2_with (first
      | (go_at_call 44; refine FI.out.mono ?_; rintro e w1 ⟨rfl, hb⟩; have B1 := Lib.hid hb; clear hb)
      | (go_at_call 45; refine (NU.out _).mono ?_; rintro e w2 ⟨rfl, hb⟩; have B2 := Lib.hid hb; have K2 := Lib.hid (KB.out.below (B1.out.trans (hb.mono B1.out.size))); have c0 := K2.out.cell 0; have c1 := K2.out.cell 1; have c2 := K2.out.cell 2; have c3 := K2.out.cell 3; have f0 := K2.out.frozen 0; have f1 := K2.out.frozen 1; have f2 := K2.out.frozen 2; have f3 := K2.out.frozen 3; clear hb))
    exact ses_end (fn := Try.f18) (s := 6) (s5 := 7) (K2.out) (((HB.out.call B1.out).call B2.out)) (by omega) _ rfl rfl _ rfl rfl
  | ok i =>
    obtain ⟨ht, hd, hn⟩ := find_ok hf
    obtain ⟨hi, hid, h0⟩ := there_facts ht
    rw [hf] at FI
    unfold gotP gotV slotP at FI
    simp only at FI ⊢
    have HIT := Lib.hid (fun W hb => hW.hit i hi W hb)
    clear h hf ht hd hn hid h0 NU hW
    obtain ⟨x0, hx0⟩ : ∃ z, z = (t.sl i).s.id := ⟨_, rfl⟩
    obtain ⟨x1, hx1⟩ : ∃ z, z = (t.sl i).s.block := ⟨_, rfl⟩
    obtain ⟨x2, hx2⟩ : ∃ z, z = (t.sl i).s.dead := ⟨_, rfl⟩
    obtain ⟨x3, hx3⟩ : ∃ z, z = (t.sl i).s.last := ⟨_, rfl⟩
    have HX := Lib.hid (And.intro hx0 (And.intro hx1 (And.intro hx2 hx3)))
    rw [← hx0, ← hx1, ← hx2, ← hx3]
    clear hx0 hx1 hx2 hx3
    go_enter Try.func18, Try.ntmps18
    go_wp2_with (first
      | (go_at_call 44; refine FI.out.mono ?_; rintro e w1 ⟨rfl, hb⟩; have B1 := Lib.hid hb; have HW := HIT.out w1 hb; have d0 := HW.c0; have d1 := HW.c1; have d2 := HW.c2; have d3 := HW.c3; rw [← HX.out.1] at d0; rw [← HX.out.2.1] at d1; rw [← HX.out.2.2.1] at d2; rw [← HX.out.2.2.2] at d3; have K2 := Lib.hid (KB.out.below hb); have c0 := K2.out.cell 0; have c1 := K2.out.cell 1; have c2 := K2.out.cell 2; have c3 := K2.out.cell 3; have f0 := K2.out.frozen 0; have f1 := K2.out.frozen 1; have f2 := K2.out.frozen 2; have f3 := K2.out.frozen 3; clear hb HW))
    exact ses_end (fn := Try.f18) (s := 6) (s5 := 7) (K2.out) ((HB.out.call B1.out)) (by omega) _ rfl rfl _ rfl rfl
end
end Go.Proofs.Ytjladlniilacjaa
