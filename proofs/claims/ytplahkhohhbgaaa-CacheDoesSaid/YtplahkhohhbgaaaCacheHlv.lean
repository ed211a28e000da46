/-
  Package cache: halve, the walk.
-/
import Derived.Test.YtplahkhohhbgaaaCacheHalve
import Derived.Handy
namespace Go.Proofs.Ytplahkhohhbgaaa
open Go.RowKit Go.Proofs.Cch
open Go.Maps (Keyed)
set_option linter.unusedVariables false
set_option linter.unusedSimpArgs false
theorem key_inv2 {x : ByteArray} {l : Lit} (h : keyOf Try.prog 9 (.string x) = some l) : x.size ≤ maxLen ∧ l = kl x := by
  simp only [keyOf, Try.underlying9] at h
  simp [mapKey, Try.underlying9] at h
  exact ⟨h.1, h.2.symm⟩
theorem val_inv2 {c : Int} {y : DataW Unit × List MemPlace} (h : plainElem Try.prog 3 (.int .i64 c) = some y) : y.1 = .lit (.int .i64 c) := by
  obtain ⟨a, e, hy, _⟩ := plainElem_int_inv Try.underlying3 h
  cases e
  rw [hy]
theorem kl_same (s t : ByteArray) : (kl t).sameKey (kl s) = decide (t = s) := by
  by_cases e : t = s
  · subst e; rw [WideAt.sameKey_self (kl_key t)]; simp
  · rw [Maps.sameKey_ne (fun h => e (kl_inj h))]; simp [e]
section
variable {w0 : World} {g sz : Nat} {v : Value} {m : Nat} {ts : Things} {cs : Counts} {ask : Nat} {w w' : World}
/-- The counter has turned. -/
theorem Cs.asked (h : Cs w0 g sz v m ts cs ask w) (k : Nat) : Cs w0 g sz v m ts cs k (w.setCell ⟨g, 3, none⟩ (.int .i64 (k : Int))) := by
  have F : Far (fun j => j = g) w (w.setCell ⟨g, 3, none⟩ (.int .i64 (k : Int))) := (Far.refl (fun j => j = g) w).setCell (p := ⟨g, 3, none⟩) (fun _ => rfl) _
  exact { blk := by have := h.blk.set 3 (.int .i64 (k : Int)); simpa using this, row := own_far h.row F (fun i hi e => h.vg (by rw [hi, e])), map := h.map.far F (fun e => h.gm e.symm), gle := h.gle, mle := h.mle, gm := h.gm, vg := h.vg, vm := h.vm, bl := Far.bl h.bl F (fun i hi => by rw [hi]; exact h.gle), len := h.len, top := h.top, keys := h.keys, cnt := h.cnt }
/-- The counts have turned. -/
theorem Cs.mapped (h : Cs w0 g sz v m ts cs ask w) {cs' : Counts} (hm : Mp w' m cs') (F : Far (fun j => j = m) w w') (hc : cs'.length ≤ 100000) : Cs w0 g sz v m ts cs' ask w' :=
  { blk := h.blk.far F h.gm, row := own_far h.row F (fun i hi e => h.vm (by rw [hi, e])), map := hm, gle := h.gle, mle := h.mle, gm := h.gm, vg := h.vg, vm := h.vm, bl := Far.bl h.bl F (fun i hi => by rw [hi]; exact h.mle), len := h.len, top := h.top, keys := h.keys, cnt := hc }
set_option maxRecDepth 100000 in
set_option maxHeartbeats 2000000 in
theorem halve_any (h : Cs w0 g sz v m ts cs ask w) :
    Calls Try.prog 44 #[.pointer (some ⟨g, 0, none⟩)] w fun e w' => e = .returned (.tuple #[]) ∧ Cs w0 g sz v m ts (halvedC cs) 0 w' ∧ Far (Ow g v m) w w' := by
  have hA := h.asked 0
  obtain ⟨D, hown, hb, hn, hh, ha, hz⟩ := hA.map
  have HOWN := Lib.hid hown
  have VW : Hid (Vw D cs) := Lib.hid ⟨hh, ha, hz⟩
  have HB := Lib.hid hb
  have HNN := Lib.hid hn
  have H := Lib.hid h
  have HA := Lib.hid hA
  have c3 := h.blk.cell 3
  have f3 := h.blk.frozen 3
  have c2 := h.blk.cell 2
  simp only [List.getElem?_toArray, List.getElem?_cons_succ, List.getElem?_cons_zero] at c2 c3
  have hlm : cs.length < maxLen := by have := h.cnt; unfold maxLen; omega
  clear hown hb hn hh ha hz h hA
  go_enter Try.func44, Try.ntmps44
  go_wp2_with (first
    | (at_range; refine wpList_range_own _ rfl _ 73 rfl 9 3 strKeyed Try.underlying73 _ m cs.length D rfl HOWN.out ?_; intro w1 hrg1 hg1 hs1)
    | go_in)
  go_frame
  have HA' : Hid (Cs w0 g sz v m ts cs 0 (w.setCell ⟨g, 3, none⟩ (.int .i64 0))) := HA
  have F0 : Hid (Far (Ow g v m) w (w.setCell ⟨g, 3, none⟩ (.int .i64 0))) := Lib.hid ((Far.refl (Ow g v m) w).setCell (p := ⟨g, 3, none⟩) (fun _ => .inl rfl) _)
  clear HA c2 c3 f3
  generalize w.setCell ⟨g, 3, none⟩ (.int .i64 0) = W0 at *
  obtain ⟨r, hr⟩ : ∃ r, r = W0.heap.size := ⟨_, rfl⟩
  rw [← hr] at hrg1 hs1 ⊢
  have HR := Lib.hid hr
  have START : Hid (∃ (left : Lit → Bool) (cnt : Nat) (D' : DataW Unit), w1.ranges Try.prog 9 (plainElem Try.prog 3) m r cs.length D' left cnt ∧ Vw D' (csL cs (fun s => left (kl s))) ∧ Far (fun i => i = m) W0 w1) := Lib.hid (by
    refine ⟨_, _, D, hrg1, ?_, (Far.refl _ W0).grown hg1 (fun i _ h => by cases h)⟩
    rw [csL_start]
    · exact VW.out
    · intro p hp
      rw [VW.out.1]
      exact hasC_iff.2 ⟨p.2, hp⟩)
  clear hr hrg1 hg1 hs1
  go_loopw [2] (fun _ wr => Hid (∃ (left : Lit → Bool) (cnt : Nat) (D' : DataW Unit), wr.ranges Try.prog 9 (plainElem Try.prog 3) m r cs.length D' left cnt ∧ Vw D' (csL cs (fun s => left (kl s))) ∧ Far (fun i => i = m) W0 wr)) (fun _ wr => wr.rangeLeft m r)
  case atStart => exact START
  case round =>
    obtain ⟨left, cnt, D', hrg, hvw, hF⟩ := hrel.out
    clear START hrel
    have HRG := Lib.hid hrg
    have HVW := Lib.hid hvw
    have HF := Lib.hid hF
    clear hrg hvw hF
    go_wp2_with (first
      | (at_next; refine wpList_next_ranges _ rfl _ rfl 9 strKeyed (plainElem Try.prog 3) Value.string (Value.int .i64) (fun _ _ h => key_inv h) (fun _ _ h => val_inv h) m r cs.length D' left cnt rfl HRG.out ?_ ?_)
      | go_in)
    · intro _ hl0
      go_wp2_with fail
      go_end0
      have hend := HVW.out
      rw [csL_end _ _ (fun s => hl0 (kl s))] at hend
      have hlen : (halvedC cs).length ≤ cs.length := List.length_filterMap_le _ _
      refine ⟨rfl, HA'.out.mapped (Mp.of_vw HRG.out.owns hend (csL_bound HB.out) (csL_nodup HNN.out _)) HF.out (by have := HA'.out.cnt; omega), F0.out.trans (HF.out.mono (S' := Ow g v m) (fun i _ h => .inr (.inr h))) (fun i _ h => h)⟩
    · intro x c l y ps w2 cnt2 hkey hlk hval hat hrg2 hlt hg2 hs2 hen
      obtain ⟨hxs, rfl⟩ := key_inv2 hkey
      have hy : y = .lit (.int .i64 c) := val_inv2 hval
      have hhas : Maps.has D' (kl x) = true := Maps.has_true_of_atKey (fun z => hat z)
      have hin := HVW.out.1 x
      rw [hhas] at hin
      obtain ⟨cn, hmem⟩ := hasC_iff.1 hin.symm
      obtain ⟨q, hq, hqe⟩ := List.mem_filterMap.1 (show (x, cn) ∈ cs.filterMap (hv (fun s => left (kl s))) from hmem)
      have hqk : x = q.1 := hv_key hqe
      have hq1 : q = (x, cn) := by
        unfold hv at hqe
        rw [if_pos (by rw [← hqk]; exact hlk)] at hqe
        exact Option.some.inj hqe
      have hcs : (x, cn) ∈ cs := by rw [← hq1]; exact hq
      have hcc : c = (cn : Int) := by
        have e1 := HVW.out.2.1 (x, cn) hmem (.lit (.int .i64 0))
        have e2 := hat (.lit (.int .i64 0))
        rw [e2] at e1
        simp only [hy, DataW.lit.injEq, Lit.int.injEq, true_and] at e1
        exact e1
      have hc15 : cn ≤ 15 := (HB.out _ hcs).2
      obtain ⟨w3, hrun3, hrg3, hg3⟩ := ranges_store hrg2 strKeyed Try.underlying73 hlm (val := .int .i64 ((cn / 2 : Nat) : Int)) hkey (plainElem_int Try.underlying3 (WalkArith.wf_i64 (by omega))) hhas
      have hqn : Int.tdiv (cn : Int) 2 = ((cn / 2 : Nat) : Int) := by rw [Int.tdiv_eq_ediv_of_nonneg (by omega)]; rfl
      have hwq : IntKind.i64.wrap ((cn / 2 : Nat) : Int) = ((cn / 2 : Nat) : Int) := IntWalk.i64_in _ (by omega)
      have hgr : r ≠ g := by have := HA'.out.blk.lt; have := HR.out; omega
      have bg := (HA'.out.blk.far HF.out HA'.out.gm).grown hg2 (fun e => hgr (Option.some.inj e))
      have bg3 := bg.grown hg3 (fun e => HA'.out.gm (Option.some.inj e).symm)
      have c2 := bg.cell 2
      have c23 := bg3.cell 2
      simp only [List.getElem?_toArray, List.getElem?_cons_succ, List.getElem?_cons_zero] at c2 c23
      have F3 : Far (fun i => i = m) W0 w3 := (HF.out.grown hg2 (fun i hi h => by cases h; have := HR.out; omega)).grown hg3 (fun i _ h => by cases h; rfl)
      have hleft : (fun s => (fun z => left z && !z.sameKey (kl x)) (kl s)) = fun s => left (kl s) && !decide (s = x) := by
        funext s
        simp only [kl_same]
      have VP : Hid (Vw (D'.put (kl x) (.lit (.int .i64 ((cn / 2 : Nat) : Int)))) (putC (csL cs (fun s => left (kl s))) x (cn / 2))) := Lib.hid (HVW.out.put (HRG.out.owns.tidy strKeyed) x (cn / 2))
      have HKEY := Lib.hid hkey
      have RG3 := Lib.hid hrg3
      have HLT := Lib.hid hlt
      have FF3 := Lib.hid F3
      have HLF := Lib.hid hleft
      have HCS := Lib.hid hcs
      have HLK := Lib.hid hlk
      have hrun4 : (Instr.mapUpdate 73 (.map (some m)) (.string x) (.int .i64 ((cn : Int) / 2))).run Try.prog w2 = .ok () w3 := by rw [show ((cn : Int) / 2) = ((cn / 2 : Nat) : Int) by omega]; exact hrun3
      subst hcc
      clear hrun3 hqn hwq hy hhas hin hmem hq hqe hqk hq1 hcs hrg3 hlt F3 hleft hat hrg2 hg2 hs2 hg3 hval bg bg3 hlk hkey
      by_cases h2 : 2 ≤ cn
      · have i1 : ¬ (cn : Int) < 2 := by omega
        have VE := Lib.hid (by have := VP.out; rw [csL_keep HNN.out HCS.out HLK.out h2] at this; exact this)
        clear h2
        go_wp2_with fail
        go_roundw
        case rel =>
          refine Lib.hid ⟨_, cnt2, _, RG3.out, ?_, FF3.out⟩
          rw [HLF.out]
          exact VE.out
        case measure =>
          rw [RG3.out.left_eq, HRG.out.left_eq]
          exact HLT.out
      · have i1 : (cn : Int) < 2 := by omega
        have VE := Lib.hid (by have := VP.out.del (RG3.out.owns.tidy strKeyed) (nodup_put (csL_nodup HNN.out _)) x; rw [csL_drop HNN.out HCS.out HLK.out h2] at this; exact this)
        clear h2
        go_wp2_with (first
          | (at_delete; refine wpList_delete_ranges _ rfl _ _ 73 9 rfl 3 strKeyed Try.underlying73 _ m r cs.length _ _ _ rfl RG3.out _ _ rfl HKEY.out ?_; intro w4 cnt4 hrg4 hle4 hturn; go_frame)
          | go_in)
        rw [Maps.strike_twice] at hrg4
        go_roundw
        case rel =>
          refine Lib.hid ⟨_, cnt4, _, hrg4, ?_, FF3.out.grown hturn.grown (fun i _ h => by cases h; rfl)⟩
          rw [HLF.out]
          exact VE.out
        case measure =>
          rw [hrg4.left_eq, HRG.out.left_eq]
          have := HLT.out
          omega
end
end Go.Proofs.Ytplahkhohhbgaaa
