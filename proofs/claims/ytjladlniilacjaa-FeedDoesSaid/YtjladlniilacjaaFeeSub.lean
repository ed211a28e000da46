/-
  Package feed: Subscribe.
-/
import Derived.Test.YtjladlniilacjaaFeeTurn
namespace Go.Proofs.Fee
theorem filter_keys {α β : Type} (f : α → β) (ks : Keyz α) (p : Int → Bool) : ((mapK f ks).filter (fun q => p q.1)).length = (ks.filter (fun q => p q.1)).length := by
  unfold mapK
  rw [List.filter_map, List.length_map]
  rfl
theorem folls_of {t : Tbl} (h : t.Ok) : (t.rows.filter (fun q => t.fol q.1)).length = folls t.rows := by
  unfold folls
  congr 1
  refine List.filter_congr (fun q hq => ?_)
  unfold Tbl.fol Tbl.row
  rw [atK_mem h.up.nodup (x := q.2) hq]
  rfl
end Go.Proofs.Fee
namespace Go.Proofs.Ytjladlniilacjaa
open Go.RowKit Go.Shelf Go.Proofs.Fee
attribute [local go_sem] Oper.semAt_some
set_option linter.unusedVariables false
set_option linter.unusedSimpArgs false
/-- How many follow, among some. -/
def cntF (t : Tbl) {ks : Keyz Nat} (l : List (RowOf ks)) : Nat := (l.filter (fun x => t.fol x.1.1)).length
theorem cntF_snoc (t : Tbl) {ks : Keyz Nat} (l : List (RowOf ks)) (x : RowOf ks) : cntF t (l ++ [x]) = cntF t l + (if t.fol x.1.1 then 1 else 0) := by
  unfold cntF
  rw [List.filter_append, List.length_append]
  congr 1
  rw [List.filter_cons]
  split <;> simp
theorem cntF_le (t : Tbl) {ks : Keyz Nat} (l : List (RowOf ks)) : cntF t l ≤ l.length := List.length_filter_le _ _
section
variable {B m mp : Nat} {t : Tbl} {rs : Keyz Rw} {w : World}
theorem cntF_all (h : Fd B m mp t rs w) (l : List (RowOf (mapK Rw.b rs))) (hl : bareF l = mapK Rw.b rs) : cntF t l = folls t.rows := by
  have h1 : cntF t l = ((bareF l).filter (fun q => t.fol q.1)).length := by
    unfold cntF bareF
    rw [List.filter_map, List.length_map]
    rfl
  rw [h1, hl, filter_keys, ← folls_of h.ok, ← h.st, filter_keys]
theorem Fd.fol_cell (h : Fd B m mp t rs w) (x : RowOf (mapK Rw.b rs)) : w.cell? ⟨x.1.2, 0, none⟩ = some (.bool (t.fol x.1.1)) := by
  obtain ⟨⟨s, b⟩, hx⟩ := x
  obtain ⟨p, hp, e⟩ := List.mem_map.1 hx
  cases e
  have ha : atK rs p.1 = some p.2 := atK_mem h.ft.up.nodup hp
  obtain ⟨_, hr, hf, _⟩ := h.hit ha
  have := hr.c0
  show w.cell? ⟨p.2.b, 0, none⟩ = some (.bool (t.fol p.1))
  unfold Tbl.fol
  rw [hf]
  exact this
set_option maxRecDepth 100000 in
set_option maxHeartbeats 2000000 in
theorem sub_any (h : Fd B m mp t rs w) (s : Int) (hs : wfI s) (hn : t.rows.length ≤ 100000) :
    Calls Try.prog 40 #[.pointer (some ⟨m, 0, none⟩), .int .i64 s] w fun e w' => e = .returned (.bool (t.sub s).2) ∧ Fs B m mp rs w (t.sub s).1 w' := by
  have H := Lib.hid h
  have hm0 := (h.ft.own m (.inl rfl)).2
  have hp0 := (h.ft.own mp (.inr (.inl rfl))).2
  have hlen : (mapK Rw.b rs).length ≤ 100000 := by rw [h.len]; exact hn
  clear h
  refine (callsIn_wide (n := 7)).1 ?_
  refine callsIn_of_wp_marks Try.func40 rfl trivial ?_ rfl
  simp only [Try.ntmps40, List.size_toArray, List.length_cons, List.length_nil, Nat.reduceAdd, Nat.reduceSub, Array.replicate_succ, Array.replicate_zero, List.push_toArray, List.append_toArray, List.nil_append, List.cons_append]
  gi_wp2_with (refine ⟨trivial, ?_⟩; refine (callsIn_wide.2 (order_any m _)).mono ?_; rintro e w' ⟨rfl, rfl⟩)
  obtain ⟨N, hN⟩ : ∃ N, N = w.heap.size := ⟨_, rfl⟩
  have b0 := (Boxed.new w 3 (.int .i64 0)).alloc (.cells #[.pointer (some ⟨m, 0, none⟩)] 53)
  have b1 := Blk.new (w.alloc (.cells #[.int .i64 0] 3)) 53 #[.pointer (some ⟨m, 0, none⟩)]
  have hB0 : Below w.heap.size w ((w.alloc (.cells #[.int .i64 0] 3)).alloc (.cells #[.pointer (some ⟨m, 0, none⟩)] 53)) := ((Below.refl _ w).alloc (Nat.le_refl _) _).alloc (by simp) _
  have hsz : ((w.alloc (.cells #[.int .i64 0] 3)).alloc (.cells #[.pointer (some ⟨m, 0, none⟩)] 53)).heap.size = N + 2 := by simp [hN]
  simp only [World.size_alloc] at b1
  generalize (w.alloc (.cells #[.int .i64 0] 3)).alloc (.cells #[.pointer (some ⟨m, 0, none⟩)] 53) = W0 at b0 b1 hB0 hsz ⊢
  have hf0 := (H.out.below hB0).ft
  have hblk := hf0.blk
  have hmap := hf0.map
  have hlag : ∀ k, Lag w.heap.size W0 k → k < W0.heap.size := fun k ⟨v, hv, hb⟩ => by
    rw [b0.cell] at hv
    cases hv
    cases hb
  simp only [← hN] at b0 b1 hB0 hlag ⊢
  have hNw : N ≤ w.heap.size := by omega
  have HN := Lib.hid hN
  have hm1 : m < N := by omega
  have hp1 : mp < N := by omega
  clear hN hf0
  refine wpIn_rangeFunc_ownF rfl (by decide) (gf := 72) (lb := #[.pointer (some ⟨N + 1, 0, none⟩)]) rfl trivial (enters_of Try.func72 (by kernel_rfl) rfl)
    (order_stops (N + 1) m mp N (mapK Rw.b rs) _ hlen W0 b1 hblk hmap (by omega) hlag) kf_t (kf_b (by omega) (by omega) (by omega) (by omega)) (Below.refl _ _) (fun _ => rfl)
    (fun (pre : List (RowOf (mapK Rw.b rs))) W => Boxed W N 3 (.int .i64 (cntF t pre : Int)) ∧ Below N w W)
    (fun c pre W => False)
    (OwnFrom.and (Own.from (boxed_own N 3 (fun pre => .int .i64 (cntF t pre : Int))) _) (ownFrom_below hNw (by omega)))
    (fun c => ownFrom_pure _ _)
    ⟨b0, hB0⟩
    (fun x => { tmps := #[.pointer (some ⟨m, 0, none⟩), .int .i64 s, undef, undef, .bool false, .pointer (some ⟨N, 0, none⟩), undef, .pointer (some ⟨x.1.2, 0, none⟩), .pointer (some ⟨m, 0, none⟩), .func (.func 72) #[] #[.pointer (some ⟨N + 1, 0, none⟩)], .int .i64 x.1.1, .pointer (some ⟨x.1.2, 0, none⟩), undef, undef, undef, undef, undef, undef, undef, undef, undef, undef, undef, undef, undef, undef, undef, undef, undef, undef, undef, undef, undef, undef, undef, undef, undef, undef, undef, undef, undef, undef, undef, undef, undef, undef, undef], defers := [] }) ?assign ?body ?done ?stop
  case assign =>
    intro l x W K hK
    simp only [encF]
    gi_wp2
    exact hK
  case body =>
    rintro l pre x W ⟨hv, hB⟩ hlt
    have hc := hv.cell
    have hfz := hv.frozen
    have hcx := (H.out.below (by rw [← HN.out]; exact hB)).fol_cell x
    have hle := cntF_le t pre
    have wk : IntKind.i64.wrap ((cntF t pre : Int) + 1) = (cntF t pre : Int) + 1 := IntWalk.i64_in _ (by omega)
    have HS := Lib.hid (cntF_snoc t pre x)
    have HV := Lib.hid hv
    have HB := Lib.hid hB
    have HLT := Lib.hid hlt
    have HX := Lib.hid x.2
    obtain ⟨c, hcc⟩ : ∃ c, c = cntF t pre := ⟨_, rfl⟩
    rw [← hcc] at hc wk
    have HC := Lib.hid hcc
    cases hf : t.fol x.1.1 with
    | false =>
      rw [hf] at hcx
      have HF := Lib.hid hf
      clear hv hB hlt hle hcc hf
      gi_wp2
      refine ⟨KeepsOthers.refl _, Kf.refl _ _ _ _ _, ?_, HB.out⟩
      rw [HS.out, HF.out]
      exact HV.out
    | true =>
      rw [hf] at hcx
      have HF := Lib.hid hf
      clear hv hB hlt hle hcc hf
      gi_wp2
      refine ⟨KeepsOthers.setCell _ _ _, Kf.num HV.out _ rfl (by omega) (by omega) (by omega), ?_, HB.out.setCell (p := ⟨N, 0, none⟩) (Nat.le_refl _) _⟩
      rw [HS.out, HF.out, if_pos rfl, ← HC.out]
      exact HV.out.set _
  case done =>
    rintro D ys W hD hys ⟨hv, hB⟩ hK
    have HW := Lib.hid (H.out.below (by rw [← HN.out]; exact hB))
    have BW := Lib.hid (show Below w.heap.size w W by rw [← HN.out]; exact hB)
    have hcnt := cntF_all H.out ys hys
    rw [hcnt] at hv
    have hc := hv.cell
    have f4 := H.out.ok.four
    have HD := Lib.hid (show w.heap.size ≤ D by have := HN.out; omega)
    have HK := Lib.hid hK
    obtain ⟨c, hcc⟩ : ∃ c, c = folls t.rows := ⟨_, rfl⟩
    rw [← hcc] at hc f4
    have FO := Lib.hid (follows_any HW.out s hs)
    cases hf : t.fol s with
    | true =>
      rw [hf] at FO
      have HS : Hid (t.sub s = (t, false)) := Lib.hid (by unfold Tbl.sub; rw [if_pos (.inl hf)])
      clear hv hB hcnt hys hK hcc hf
      gi_wp2_with (refine ⟨trivial, ?_⟩; refine (callsIn_wide.2 FO.out).mono ?_; rintro e w' ⟨rfl, rfl⟩)
      refine ⟨by simp, .inl ⟨_, _, rfl, run_takeDeferred HK.out, ?_⟩⟩
      refine ⟨_, results_tmp rfl _ _ _, ?_⟩
      rw [HS.out]
      exact ⟨rfl, (Fs.same H.out BW.out).took HK.out HD.out _⟩
    | false =>
      rw [hf] at FO
      by_cases h4 : c = 4
      · have HS : Hid (t.sub s = (t, false)) := Lib.hid (by unfold Tbl.sub; rw [if_pos (.inr (by rw [← hcc]; exact h4))])
        subst h4
        clear hv hB hcnt hys hK hcc hf
        gi_wp2_with (refine ⟨trivial, ?_⟩; refine (callsIn_wide.2 FO.out).mono ?_; rintro e w' ⟨rfl, rfl⟩)
        refine ⟨by simp, .inl ⟨_, _, rfl, run_takeDeferred HK.out, ?_⟩⟩
        refine ⟨_, results_tmp rfl _ _ _, ?_⟩
        rw [HS.out]
        exact ⟨rfl, (Fs.same H.out BW.out).took HK.out HD.out _⟩
      · have HS : Hid (t.sub s = (t.put s ⟨true, (t.row s).q⟩, true)) := Lib.hid (by
          unfold Tbl.sub
          rw [if_neg]
          rintro (e | e)
          · rw [hf] at e; cases e
          · exact h4 (by rw [hcc]; exact e))
        have OK := Lib.hid (H.out.ok.sub s hs)
        rw [HS.out] at OK
        have i4 : ¬ (c : Int) = 4 := by omega
        have i5 : ((c : Int) == 4) = false := by simp; omega
        have LK := HW.out.look s hs
        have c1 := HW.out.c1
        cases hx : atK rs s with
        | some x =>
          rw [hx] at LK
          obtain ⟨hm1, hr, hrow, _⟩ := HW.out.hit hx
          have d0 := hr.c0
          have df := hr.blk.frozen 0
          unfold Option.map ptrV at LK
          simp only at LK
          have HR := Lib.hid hr
          have HX := Lib.hid hx
          have HROW := Lib.hid hrow
          obtain ⟨xb, hxb⟩ : ∃ z, z = x.b := ⟨_, rfl⟩
          rw [← hxb] at LK d0 df
          have HXB := Lib.hid hxb
          clear hv hB hcnt hys hK hcc hf h4 hx hm1 hr hrow hxb
          gi_wp2_with (refine ⟨trivial, ?_⟩; refine (callsIn_wide.2 FO.out).mono ?_; rintro e w' ⟨rfl, rfl⟩)
          rw [HXB.out]
          have HK2 := Lib.hid (dfr_set (c := 0) HK.out HR.out.blk (.bool true))
          refine ⟨by simp, .inl ⟨_, _, rfl, run_takeDeferred HK2.out, ?_⟩⟩
          refine ⟨_, results_tmp rfl _ _ _, ?_⟩
          have OK2 := OK.out
          rw [HS.out]
          rw [show (t.row s).q = x.row.q from by rw [HROW.out]] at OK2 ⊢
          exact ⟨rfl, ((HW.out.set_fol HX.out true OK2).since BW.out).took HK2.out HD.out _⟩
        | none =>
          rw [hx] at LK
          unfold Option.map ptrV at LK
          simp only at LK
          have HX := Lib.hid hx
          have hnr := HW.out.miss hx
          have HNR := Lib.hid hnr
          have M1 := HW.out.ft.map.below ((Below.refl _ W).alloc (Nat.le_refl _) (.cells #[.bool false, .slice none 0 0] 130))
          obtain ⟨w2, hput, MP2, hg2⟩ := M1.put s hs W.heap.size (by simp [maxLen]; omega)
          have hms : mp ≠ W.heap.size := by have := HW.out.ft.map.lt; omega
          have hmlt := HW.out.ft.blk.lt
          have hblk2 : Blk w2 m 114 #[.int .i64 (t.room : Int), .map (some mp)] := (HW.out.ft.blk.alloc _).grown hg2 (by simpa using HW.out.ft.m_mp.symm)
          have hbq : Blk w2 W.heap.size 130 #[.bool false, .slice none 0 0] := (Blk.new W 130 #[.bool false, .slice none 0 0]).grown hg2 (by simpa using hms)
          have c2 : w2.cell? ⟨m, 1, none⟩ = some (.map (some mp)) := by rw [hblk2.cell]; rfl
          have d0 : w2.cell? ⟨W.heap.size, 0, none⟩ = some (.bool false) := by rw [hbq.cell]; rfl
          have df := hbq.frozen 0
          have LK2 := MP2.look s hs
          rw [atK_put M1.up, if_pos rfl] at LK2
          unfold ptrV at LK2
          simp only at LK2
          have HBQ := Lib.hid hbq
          have HMP2 := Lib.hid MP2
          have HG2 := Lib.hid hg2
          have HDW := Lib.hid (show w2.heap[D]? = some (.deferred (some [])) by
            have hl := (Array.getElem?_eq_some_iff.1 hK).1
            rw [hg2.block D (by simp; omega) (fun e => by
              injection e with e
              obtain ⟨es, clock, he⟩ := HW.out.ft.map.obj
              rw [e] at hK
              have := hK.symm.trans he
              injection this with this
              cases this), Below.heap_alloc _ _ _ hl]
            exact hK)
          obtain ⟨q, hq⟩ : ∃ q, q = W.heap.size := ⟨_, rfl⟩
          clear hv hB hcnt hys hK hcc hf h4 hx hnr M1 MP2 hg2 hblk2 hbq hms hmlt
          gi_wp2_with (refine ⟨trivial, ?_⟩; refine (callsIn_wide.2 FO.out).mono ?_; rintro e w' ⟨rfl, rfl⟩)
          have HK2 := Lib.hid (dfr_set (c := 0) HDW.out HBQ.out (.bool true))
          refine ⟨by simp, .inl ⟨_, _, rfl, run_takeDeferred HK2.out, ?_⟩⟩
          refine ⟨_, results_tmp rfl _ _ _, ?_⟩
          have OK2 := OK.out
          rw [HS.out]
          rw [HNR.out] at OK2 ⊢
          refine ⟨rfl, ((Fd.added (y := ⟨true, [], W.heap.size, .slice none 0 0⟩) HW.out HX.out ?_ ?_ ?_ (Nat.le_refl _) (fun k hk => by cases hk) OK2).since BW.out).took HK2.out HD.out _⟩
          · exact (((Far.refl (fun k => k = mp) W).alloc _).grown HG2.out (fun i _ e => by cases e; rfl)).setCell (p := ⟨W.heap.size, 0, none⟩) (fun h => absurd h (Nat.lt_irrefl _)) _
          · exact HMP2.out.same (Below.heap_setCell _ _ _ _ (by
              intro e
              simp only at e
              have := HW.out.ft.map.lt
              omega))
          · exact ⟨HBQ.out.set 0 (.bool true), ⟨rfl, .inl ⟨rfl, rfl⟩⟩, fun y hy => (by cases hy), (by have := HW.out.ft.own m (.inl rfl); show B ≤ W.heap.size; omega)⟩
  case stop =>
    rintro D c pre W hD hp hF hK
    exact hF.elim
end
end Go.Proofs.Ytjladlniilacjaa
