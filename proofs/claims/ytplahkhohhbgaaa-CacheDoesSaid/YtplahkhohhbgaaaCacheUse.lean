/-
  Package cache: use.
-/
import Derived.Test.YtplahkhohhbgaaaCacheKeys
import Derived.Handy
import Derived.Deep.RegionHeld3
namespace Go.Proofs.Cch
/-- What is there when a key's thing was used, its value, and whether there is one. -/
def useF (ts : Things) (key : ByteArray) : Things × ByteArray × Bool := match ts[(placeOf ts key).toNat]? with
  | some t => if placeOf ts key = -1 then (ts, ⟨#[]⟩, false) else (t :: ts.eraseIdx (placeOf ts key).toNat, t.2, true)
  | none => (ts, ⟨#[]⟩, false)
end Go.Proofs.Cch
namespace Go.Proofs.Ytplahkhohhbgaaa
open Go.RowKit Go.Proofs.Cch
set_option linter.unusedVariables false
set_option linter.unusedSimpArgs false
section
variable {w0 : World} {g sz : Nat} {v : Value} {m : Nat} {ts : Things} {cs : Counts} {ask : Nat} {w w' : World}
/-- The row's cells have turned. -/
theorem Cs.rowed (h : Cs w0 g sz v m ts cs ask w) {ts' : Things} (hr : Rt w' w0.heap.size v ts') (F : Far (fun j => v.ownBlock = some j) w w') (hl : ts'.length ≤ sz) (hk : ∀ (j : Nat) (t : ByteArray × ByteArray), ts'[j]? = some t → t.1.size ≤ maxLen) : Cs w0 g sz v m ts' cs ask w' :=
  { blk := h.blk.far F h.vg, row := hr, map := h.map.far F h.vm, gle := h.gle, mle := h.mle, gm := h.gm, vg := h.vg, vm := h.vm, bl := Far.bl h.bl F (fun j hj => (h.row.lt j hj).1), len := hl, top := h.top, keys := hk, cnt := h.cnt }
theorem use_row (ts : Things) (k : Nat) (t : ByteArray × ByteArray) (ht : ts[k]? = some t) (cur : List Value) (hs : ts.length * 2 ≤ cur.length) (hc : cur.take (ts.length * 2) = flat ts) (o : Nat) (ho : 0 < k → o = 2) :
    (splice (splice cur o (flat (ts.take k))) 0 [.string t.1, .string t.2]).take (ts.length * 2) = flat (t :: ts.eraseIdx k) := by
  have hlt := (List.getElem?_eq_some_iff.1 ht).1
  have hf : (flat (ts.take k)).length = k * 2 := by rw [flat_length, List.length_take, Nat.min_eq_left (by omega)]
  have hd : flat (ts.drop (k + 1)) = (cur.drop ((k + 1) * 2)).take ((ts.length - (k + 1)) * 2) := by
    rw [flat_drop, ← hc, List.drop_take]
    congr 1
    omega
  have h1 : (splice cur o (flat (ts.take k))).drop 2 = flat (ts.take k) ++ cur.drop ((k + 1) * 2) := by
    rcases Nat.eq_zero_or_pos k with h0 | h0
    · subst h0
      simp [splice, flat]
    · rw [ho h0]
      unfold splice
      rw [List.drop_append_of_le_length (by rw [List.length_take]; omega), List.drop_of_length_le (by rw [List.length_take]; omega), List.nil_append, hf]
      congr 2
      omega
  have h2 : splice (splice cur o (flat (ts.take k))) 0 [Value.string t.1, .string t.2] = [Value.string t.1, .string t.2] ++ (flat (ts.take k) ++ cur.drop ((k + 1) * 2)) := by
    rw [← h1]
    simp [splice]
  rw [h2, List.eraseIdx_eq_take_drop_succ, flat_cons, flat_append, hd]
  have h3 : ([Value.string t.1, .string t.2] : List Value).length = 2 := rfl
  rw [List.take_append, h3, List.take_of_length_le (by rw [h3]; omega), List.take_append, hf, List.take_of_length_le (l := flat (ts.take k)) (by rw [hf]; omega), show ts.length * 2 - 2 - k * 2 = (ts.length - (k + 1)) * 2 by omega]
  rfl
theorem useF_miss {ts : Things} {key : ByteArray} (h : placeOf ts key = -1) : useF ts key = (ts, ⟨#[]⟩, false) := by
  unfold useF
  rw [h]
  split <;> simp
theorem useF_hit {ts : Things} {key : ByteArray} {k : Nat} {t : ByteArray × ByteArray} (h : placeOf ts key = (k : Int)) (ht : ts[k]? = some t) : useF ts key = (t :: ts.eraseIdx k, t.2, true) := by
  unfold useF
  rw [h, Int.toNat_natCast, ht]
  simp only
  rw [if_neg (by omega)]
set_option maxRecDepth 100000 in
set_option maxHeartbeats 2000000 in
theorem use_any (key : ByteArray) (h : Cs w0 g sz v m ts cs ask w) :
    Calls Try.prog 43 #[.pointer (some ⟨g, 0, none⟩), .string key] w fun e w' => e = .returned (.tuple #[.string (useF ts key).2.1, .bool (useF ts key).2.2]) ∧ Cs w0 g sz v m (useF ts key).1 cs ask w' ∧ Far (Ow g v m) w w' := by
  have hl : ts.length ≤ 1000 := by have := h.len; have := h.top; omega
  rcases placeOf_cases ts key with ⟨e, _⟩ | ⟨k, ⟨tk, tv⟩, e, ht, hk, hno⟩
  · obtain ⟨A, c, rfl, _, hT⟩ := h.row.th
    have FND := Lib.hid (find_any key h.blk hT hl)
    have H := Lib.hid h
    clear h hT
    rw [useF_miss e]
    rw [e] at FND
    go_enter Try.func43, Try.ntmps43
    go_wp2_with (go_at_call 49; refine FND.out.mono ?_; rintro e w1 ⟨rfl, hb⟩; have HB := Lib.hid hb; clear hb)
    go_returns
    exact ⟨rfl, H.out.below HB.out, Far.call (Far.refl _ w) HB.out⟩
  · have hlt := place_bd e
    obtain ⟨q, cap, cur, rfl, hB, hk1, hle, hcap, hsz, hcur⟩ := h.row.block (by intro e; rw [e] at hlt; simp at hlt)
    obtain ⟨A, c, hA, _, hT⟩ := h.row.th
    have FND : Hid _ := Lib.hid (find_any key h.blk (by cases hA; exact hT) hl)
    have H := Lib.hid h
    rw [useF_hit e ht]
    rw [e] at FND
    have HT := Lib.hid ht
    have HQ : Hid (Blk w q 83 cur.toArray) := Lib.hid hk1
    have HSZ := Lib.hid hsz
    have HCUR := Lib.hid hcur
    have HLE := Lib.hid hle
    clear hA hT h e ht hk hno hk1 hsz hcur
    obtain ⟨n, hn⟩ : ∃ n, n = ts.length := ⟨_, rfl⟩
    rw [← hn] at hlt hle H HLE HCUR ⊢
    dsimp only
    have HN := Lib.hid hn
    clear hn
    obtain ⟨o, ho⟩ : ∃ o, o = if cap = 1 then 0 else 2 := ⟨_, rfl⟩
    have s1 : ∀ W : World, (Instr.slice 74 (.slice (some ⟨q, 0, none⟩) n cap) (some (.int .i64 1)) none none).run Try.prog W = .ok (.slice (some ⟨q, o, none⟩) (n - 1) (cap - 1)) W := fun W => by
      rw [run_slice_l W 74 (some ⟨q, 0, none⟩) n cap elemThs .i64 1 (by omega) (by omega), sizeThs, ho]
      simp only [Result.andThen, sliced]
      by_cases h1 : cap = 1
      · subst h1; simp
      · rw [if_neg (by simpa using h1), if_neg h1]
        simp [Addr.add]
    have s2 : ∀ W : World, (Instr.slice 74 (.slice (some ⟨q, 0, none⟩) n cap) none (some (.int .i64 (k : Int))) none).run Try.prog W = .ok (.slice (some ⟨q, 0, none⟩) k cap) W := fun W => by
      rw [run_slice_h W 74 (some ⟨q, 0, none⟩) n cap elemThs .i64 (k : Int) (by omega) (by omega), sizeThs]
      simp [Result.andThen, sliced, Addr.add]
    have i1 : ¬ (k : Int) < 0 := by omega
    have i2 : (0 : Int) ≤ (k : Int) := by omega
    have i3 : (k : Int) < (n : Int) := by omega
    have i4 : (0 : Int) < (n : Int) := by omega
    have i5 : (k : Int) ≤ (n : Int) := by omega
    obtain ⟨fl, hfl⟩ : ∃ l, l = flat (ts.take k) := ⟨_, rfl⟩
    have hfll : fl.length = k * 2 := by rw [hfl, flat_length, List.length_take, Nat.min_eq_left (by have := HN.out; omega)]
    have HO := Lib.hid ho
    have HFL := Lib.hid hfl
    have HFLL := Lib.hid hfll
    have hqc : ∀ W : World, Blk W q 83 cur.toArray → W.cell? ⟨q, k * 2, none⟩ = some (.string tk) ∧ W.cell? ⟨q, k * 2 + 1, none⟩ = some (.string tv) := fun W hW => by
      obtain ⟨e1, e2⟩ := flat_get ts k _ HT.out
      have hle' := HLE.out
      rw [← HCUR.out, List.getElem?_take_of_lt (by omega)] at e1
      rw [← HCUR.out, List.getElem?_take_of_lt (by omega)] at e2
      rw [hW.cell, hW.cell, List.getElem?_toArray, List.getElem?_toArray]
      exact ⟨e1, e2⟩
    have HQC := Lib.hid hqc
    clear ho hfl hfll hle hqc
    go_enter Try.func43, Try.ntmps43
    go_wp2_with (go_at_call 49; refine FND.out.mono ?_; rintro e w1 ⟨rfl, hb⟩; have h1 := H.out.below hb; have c1 := h1.blk.cell 1; have bq := HQ.out.below hb; have dd := HQC.out w1 bq; have d0 := dd.1; have d1 := dd.2; simp only [List.getElem?_toArray, List.getElem?_cons_succ, List.getElem?_cons_zero] at c1; have HB := Lib.hid hb; have H1 := Lib.hid h1; have BQ := Lib.hid bq; clear h1 hb bq dd)
    have h2 := H1.out.below ((Below.refl _ w1).alloc (Nat.le_refl _) (.cells #[.string tk, .string tv] 83))
    have b2 : Blk _ q 83 cur.toArray := BQ.out.alloc (.cells #[.string tk, .string tv] 83)
    have x2 := Blk.new w1 83 #[.string tk, .string tv]
    have f2 : Far (Ow g (.slice (some ⟨q, 0, none⟩) n cap) m) w (w1.alloc (.cells #[.string tk, .string tv] 83)) := (Far.call (Far.refl _ w) HB.out).alloc _
    have hqx : q ≠ w1.heap.size := by have := BQ.out.lt; omega
    have hgx : g ≠ w1.heap.size := by have := H1.out.blk.lt; omega
    generalize w1.alloc (.cells #[.string tk, .string tv] 83) = W2 at *
    generalize w1.heap.size = X at *
    have hle2 := HLE.out
    have hsz2 := HSZ.out
    have ho2 : 0 < k → o = 2 := fun h => by rw [HO.out, if_neg (by omega)]
    have hofit : o + fl.length ≤ cur.length := by
      rw [HFLL.out]
      rcases Nat.eq_zero_or_pos k with h0 | h0
      · subst h0; have := HO.out; split at this <;> omega
      · rw [ho2 h0]; omega
    have hcp : ∀ ty, (Builtin.copy_ #[74, 74] ty #[.slice (some ⟨q, o, none⟩) (n - 1) (cap - 1), .slice (some ⟨q, 0, none⟩) k cap]).run Try.prog W2.drew = .ok (goInt k) (W2.drew.setCells q o fl) := fun ty =>
      copy_two W2.drew ty q o (n - 1) (cap - 1) ⟨q, 0, none⟩ k cap k fl cur (Nat.min_eq_left (by omega)).symm HFLL.out b2 hofit (fun j v hj => by
        have hj2 := (List.getElem?_eq_some_iff.1 hj).1
        have hfll := HFLL.out
        rw [Addr.add_mid, Nat.zero_add, (show Blk W2.drew q _ _ from b2).cell, List.getElem?_toArray]
        rw [HFL.out, flat_take, ← HCUR.out, List.take_take, List.getElem?_take_of_lt (by omega)] at hj
        exact hj) (by rw [HFL.out]; exact flat_one _)
    have b3 : Blk (W2.drew.setCells q o fl) q 83 (splice cur o fl).toArray := Blk.setCells fl o cur W2.drew b2 hofit
    have f3 : Far (fun j => j = q) W2 (W2.drew.setCells q o fl) := far_setCells (S := fun j => j = q) (fun _ => rfl) _ _ _ ((Far.refl _ W2).drew)
    have hl3 : (splice cur o fl).length = cap * 2 := by rw [length_splice _ _ _ hofit]; exact hsz2
    have hgq : g ≠ q := fun e => h2.vg (by rw [e]; rfl)
    have g2 := h2.blk.cell 1
    have g3 := (h2.blk.far f3 hgq).cell 1
    have x3 := x2.far f3 (fun e => hqx e.symm)
    simp only [List.getElem?_toArray, List.getElem?_cons_succ, List.getElem?_cons_zero] at g2 g3
    have KE0 : Hid (W2.drew.cell? ⟨g, 1, none⟩ = some (.slice (some ⟨q, 0, none⟩) n cap)) := Lib.hid g2
    have KE3 := Lib.hid g3
    have HCP := Lib.hid hcp
    have B3 := Lib.hid b3
    have F3 := Lib.hid f3
    have X3 := Lib.hid x3
    have HL3 := Lib.hid hl3
    have H2 := Lib.hid h2
    have FF2 := Lib.hid f2
    clear hcp b3 f3 x3 hl3 h2 f2 b2 x2 d0 d1 c1 hofit ho2 hle2 hsz2 g2 g3
    go_region_held3 (fun W => W.cell? ⟨g, 1, none⟩ = some (.slice (some ⟨q, 0, none⟩) n cap)) (first | exact KE0.out | exact KE3.out)
      (first
        | (refine step_copy_runI rfl (.tmp 24) (.tmp 30) 74 74 rfl (.slice (some ⟨q, o, none⟩) (n - 1) (cap - 1)) (.slice (some ⟨q, 0, none⟩) k cap) (by simp [Act.eval]) (by simp [Act.eval]) (HCP.out _) ?_))
    generalize W2.drew.setCells q o fl = W3 at *
    have g3 := KE3.out
    obtain ⟨cur3, hcur3⟩ : ∃ l, l = splice cur o fl := ⟨_, rfl⟩
    have b3 := B3.out
    rw [← hcur3] at b3
    have hl3 := HL3.out
    rw [← hcur3] at hl3
    have hle3 := HLE.out
    have q0 : W3.cell? ⟨q, 0, none⟩ = some cur3[0] := by rw [b3.cell, List.getElem?_toArray, List.getElem?_eq_getElem (by omega)]
    have q1 : W3.cell? ⟨q, 1, none⟩ = some cur3[1] := by rw [b3.cell, List.getElem?_toArray, List.getElem?_eq_getElem (by omega)]
    have z0 := b3.frozen 0
    have z1 := b3.frozen 1
    have y0 := X3.out.cell 0
    have y1 := X3.out.cell 1
    simp only [List.getElem?_toArray, List.getElem?_cons_succ, List.getElem?_cons_zero] at y0 y1
    have BB3 := Lib.hid b3
    have HC3 := Lib.hid hcur3
    generalize cur3[0] = u0 at q0
    generalize cur3[1] = u1 at q1
    have hXq : X ≠ q := fun e => hqx e.symm
    clear b3 hcur3 hl3 hle3 KE3 KE0 HCP
    go_wp2_with fail
    go_region
    all_goals
      go_wp2_with fail
      go_returns
      have hle4 := HLE.out
      have hl3 : cur3.length = cap * 2 := by rw [HC3.out]; exact HL3.out
      have hn4 := HN.out
      obtain ⟨L4, hL4⟩ : ∃ L4, L4 = splice cur3 0 [Value.string tk, .string tv] := ⟨_, rfl⟩
      have b4 := Blk.setCells [Value.string tk, .string tv] 0 cur3 W3 BB3.out (by rw [hl3]; simp; omega)
      have hl4 : L4.length = cap * 2 := by rw [hL4, length_splice _ _ _ (by rw [hl3]; simp; omega)]; exact hl3
      rw [← hL4] at b4
      have htk : L4.take (n * 2) = flat ((tk, tv) :: ts.eraseIdx k) := by
        have := use_row ts k (tk, tv) HT.out cur (by rw [← hn4, HSZ.out]; omega) (by rw [← hn4]; exact HCUR.out) o (fun h => by rw [HO.out, if_neg (by omega)])
        rw [← hn4, ← HFL.out, ← HC3.out, ← hL4] at this
        exact this
      have hlen : ((tk, tv) :: ts.eraseIdx k).length = n := by rw [List.length_cons, List.length_eraseIdx_of_lt (by omega), ← hn4]; omega
      have f4 : Far (fun j => (Value.slice (some ⟨q, 0, none⟩) n cap).ownBlock = some j) W2 ((W3.setCell ⟨q, 0, none⟩ (.string tk)).setCell ⟨q, 1, none⟩ (.string tv)).drew :=
        (far_setCells (S := fun j => (Value.slice (some ⟨q, 0, none⟩) n cap).ownBlock = some j) (fun _ => rfl) [Value.string tk, .string tv] 0 W3 (F3.out.mono (fun j _ h => by rw [h]; rfl))).drew
      refine ⟨rfl, H2.out.rowed ?_ f4 (by rw [hlen, hn4]; exact H2.out.len) ?_, FF2.out.trans (f4.mono (S' := Ow g (.slice (some ⟨q, 0, none⟩) n cap) m) (fun i _ h => .inr (.inl h))) (fun i _ h => h)⟩
      · have hr : Rt ((W3.setCell ⟨q, 0, none⟩ (.string tk)).setCell ⟨q, 1, none⟩ (.string tv)).drew w0.heap.size (.slice (some ⟨q, 0, none⟩) n cap) ((tk, tv) :: ts.eraseIdx k) := by
          show World.ownsRow _ _ _ 2 _ ((tk, tv) :: ts.eraseIdx k).length _
          rw [hlen]
          exact ⟨by rw [flat_length, hlen], .inr ⟨q, cap, L4.toArray, rfl, hB, b4, hle4, (by assumption), by simp [hl4], by rw [List.toList_toArray]; exact htk⟩⟩
        exact hr
      · exact keys_cons (keys_erase H2.out.keys k) _ (H2.out.keys k _ HT.out)
end
end Go.Proofs.Ytplahkhohhbgaaa
