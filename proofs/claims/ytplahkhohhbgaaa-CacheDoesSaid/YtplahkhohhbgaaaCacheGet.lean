/-
  Package cache: Get.
-/
import Derived.Test.YtplahkhohhbgaaaCacheHlv
namespace Go.Proofs.Cch
/-- What is there when a key was asked for: things, counts, asks. -/
def getF (sz : Nat) (ts : Things) (cs : Counts) (ask : Nat) (key : ByteArray) : Things × Counts × Nat :=
  if sz = 0 then (ts, cs, ask)
  else if ask + 1 = 10 * sz then ((useF ts key).1, halvedC (putC cs key (min (cntAt cs key + 1) 15)), 0)
  else ((useF ts key).1, putC cs key (min (cntAt cs key + 1) 15), ask + 1)
def gotF (sz : Nat) (ts : Things) (key : ByteArray) : ByteArray × Bool := if sz = 0 then (⟨#[]⟩, false) else (useF ts key).2
end Go.Proofs.Cch
namespace Go.Proofs.Ytplahkhohhbgaaa
open Go.RowKit Go.Proofs.Cch
set_option linter.unusedVariables false
set_option linter.unusedSimpArgs false
section
variable {w0 : World} {g sz : Nat} {v : Value} {m : Nat} {ts : Things} {cs : Counts} {ask : Nat} {w w' : World}
set_option maxRecDepth 100000 in
set_option maxHeartbeats 2000000 in
theorem get_any (key : ByteArray) (hkey : key.size ≤ maxLen) (hask : ask ≤ 100000) (hcs : cs.length < 100000) (h : Cs w0 g sz v m ts cs ask w) :
    Calls Try.prog 18 #[.pointer (some ⟨g, 0, none⟩), .string key] w fun e w' => e = .returned (.tuple #[.string (gotF sz ts key).1, .bool (gotF sz ts key).2]) ∧
      Cs w0 g sz v m (getF sz ts cs ask key).1 (getF sz ts cs ask key).2.1 (getF sz ts cs ask key).2.2 w' ∧ Far (Ow g v m) w w' := by
  have c0 := h.blk.cell 0
  have c2 := h.blk.cell 2
  simp only [List.getElem?_toArray, List.getElem?_cons_succ, List.getElem?_cons_zero] at c0 c2
  by_cases hz : sz = 0
  · subst hz
    unfold gotF getF
    rw [if_pos rfl, if_pos rfl]
    have H := Lib.hid h
    clear h
    go_enter Try.func18, Try.ntmps18
    go_wp2_with fail
    go_returns
    exact ⟨rfl, H.out, Far.refl _ w⟩
  · unfold gotF getF
    rw [if_neg hz, if_neg hz]
    have h1 : Cs w0 g sz v m ts cs ask w.drew := h.drewN 1
    have hlk := h1.map.look key hkey
    obtain ⟨a, ha⟩ : ∃ a, a = cntAt cs key := ⟨_, rfl⟩
    obtain ⟨cn, hcn⟩ : ∃ c, c = min (cntAt cs key + 1) 15 := ⟨_, rfl⟩
    obtain ⟨w2, hput, hmp, hgr⟩ := h1.map.put key hkey cn (by rw [hcn]; omega) (by unfold maxLen; omega)
    rw [← ha] at hlk
    rw [← hcn]
    have ha15 : a ≤ 15 := by
      rw [ha]
      rcases hc : hasC cs key with _ | _
      · rw [cntAt_none hc]; omega
      · obtain ⟨D, _, hb, hn, _⟩ := h.map
        obtain ⟨c', hm⟩ := hasC_iff.1 hc
        rw [cntAt_mem hn hm]
        exact (hb _ hm).2
    have hw1 : IntKind.i64.wrap ((a : Int) + 1) = (a : Int) + 1 := IntWalk.i64_in _ (by omega)
    have hmin : (cn : Int) = min ((a : Int) + 1) 15 := by rw [hcn, ← ha]; omega
    have hz' : ¬ (sz : Int) = 0 := by omega
    have h2 : Cs w0 g sz v m ts (putC cs key cn) ask w2 := h1.mapped hmp ((Far.refl (fun j => j = m) w.drew).grown hgr (fun i _ h => by cases h; rfl)) (by rw [putC_length]; split <;> omega)
    have F2 : Far (Ow g v m) w w2 := ((Far.refl (Ow g v m) w).drew).grown hgr (fun i _ h => by cases h; exact .inr (.inr rfl))
    have c2d : w.drew.cell? ⟨g, 2, none⟩ = some (.map (some m)) := c2
    rw [hmin] at hput
    have HPUT := Lib.hid hput
    have H2 := Lib.hid h2
    have FF2 := Lib.hid F2
    have H := Lib.hid h
    have HCN := Lib.hid hcn
    have HMIN := Lib.hid hmin
    clear ha hcn hmp hgr h1 h2 F2 h hmin
    obtain ⟨T3, hT3⟩ : ∃ T3 : Things × Counts × Nat, T3 = if ask + 1 = 10 * sz then ((useF ts key).1, halvedC (putC cs key cn), 0) else ((useF ts key).1, putC cs key cn, ask + 1) := ⟨_, rfl⟩
    rw [← hT3]
    have HT3 := Lib.hid hT3
    clear hT3
    go_enter Try.func18, Try.ntmps18
    go_wp2_with fail
    go_region
    clear hlk hput c2d c0 c2
    have USE := Lib.hid (use_any key H2.out)
    have wa : IntKind.i64.wrap ((ask : Int) + 1) = (ask : Int) + 1 := IntWalk.i64_in _ (by omega)
    have hsz := H2.out.top
    have wm : IntKind.i64.wrap (10 * (sz : Int)) = 10 * (sz : Int) := IntWalk.i64_in _ (by omega)
    go_wp2_with (go_at_call 43; refine USE.out.mono ?_; rintro e w3 ⟨rfl, h3, F3⟩; have e3 := h3.blk.cell 3; have z3 := h3.blk.frozen 3; simp only [List.getElem?_toArray, List.getElem?_cons_succ, List.getElem?_cons_zero] at e3; have H3 := Lib.hid h3; have FF3 := Lib.hid (FF2.out.trans F3 (fun i _ h => h)); clear h3 F3)
    have H4 := Lib.hid (H3.out.asked (ask + 1))
    have FF4 := Lib.hid (FF3.out.setCell (p := ⟨g, 3, none⟩) (fun _ => .inl rfl) (.int .i64 ((ask + 1 : Nat) : Int)))
    rw [show ((ask + 1 : Nat) : Int) = (ask : Int) + 1 by omega] at H4 FF4
    generalize w3.setCell ⟨g, 3, none⟩ (.int .i64 ((ask : Int) + 1)) = W4 at *
    have c0 := H4.out.blk.cell 0
    have c3 := H4.out.blk.cell 3
    simp only [List.getElem?_toArray, List.getElem?_cons_succ, List.getElem?_cons_zero] at c0 c3
    rw [show ((ask + 1 : Nat) : Int) = (ask : Int) + 1 by omega] at c3
    clear e3 z3
    by_cases hq : ask + 1 = 10 * sz
    · have e := HT3.out
      rw [if_pos hq] at e
      subst e
      have hq1 : ((ask : Int) + 1 == 10 * (sz : Int)) = true := by simp; omega
      have hq2 : (ask : Int) + 1 = 10 * (sz : Int) := by omega
      have HQ2 := Lib.hid hq2
      clear hq hq2 HT3
      go_quiet (fail)
      have H5 := Lib.hid (H4.out.drewN nq)
      have FF5 := Lib.hid (FF4.out.drewN nq)
      generalize W4.drewN nq = W5 at *
      clear c0 c3
      have HAL := Lib.hid (halve_any H5.out)
      go_wp2_with (go_at_call 44; refine HAL.out.mono ?_; rintro e w6 ⟨rfl, h6, F6⟩; have H6 := Lib.hid h6; have FF6 := Lib.hid F6; clear h6 F6)
      go_returns
      exact ⟨rfl, H6.out, FF5.out.trans FF6.out (fun i _ h => h)⟩
    · have e := HT3.out
      rw [if_neg hq] at e
      subst e
      have hq1 : ((ask : Int) + 1 == 10 * (sz : Int)) = false := by simp; omega
      have hq2 : ¬ (ask : Int) + 1 = 10 * (sz : Int) := by omega
      clear hq HT3
      go_quiet (fail)
      have H5 := Lib.hid (H4.out.drewN nq)
      have FF5 := Lib.hid (FF4.out.drewN nq)
      generalize W4.drewN nq = W5 at *
      clear c0 c3
      go_wp2_with fail
      go_returns
      exact ⟨rfl, H5.out, FF5.out⟩
end
end Go.Proofs.Ytplahkhohhbgaaa
