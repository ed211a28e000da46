/-
  Package lease: Store.
-/
import Derived.Test.YtjladlniilacjaaLeaReplay
import Derived.Test.YtjladlniilacjaaDelAnss
namespace Go.Proofs.Ytjladlniilacjaa
open Go.RowKit Go.Proofs.Lea
set_option linter.unusedVariables false
set_option linter.unusedSimpArgs false
theorem infoAns : (Try.prog.info? 105).map (fun i => (i.zero, i.size, i.bytes)) = some (some (.agg #[.int .i64 0, .string ⟨#[]⟩]), 2, 24) := by kernel_rfl
theorem elemAns : Try.prog.underlying 87 = some (.slice 105) := by kernel_rfl
theorem flatA_append (a b : List Ans) : flatA (a ++ b) = flatA a ++ flatA b := by simp [flatA, List.flatMap_append]
theorem flatA_drop (l : List Ans) (k : Nat) : flatA (l.drop k) = (flatA l).drop (k * 2) := by
  rcases Nat.le_total k l.length with h | h
  · have h1 : flatA l = flatA (l.take k) ++ flatA (l.drop k) := by rw [← flatA_append, List.take_append_drop]
    have h2 : (flatA (l.take k)).length = k * 2 := by rw [flatA_length, List.length_take, Nat.min_eq_left h]
    rw [h1, ← h2, List.drop_left]
  · rw [List.drop_of_length_le h, List.drop_of_length_le (by rw [flatA_length]; omega)]; rfl
theorem flatA_one (l : List Ans) : ∀ v ∈ flatA l, v.oneCell' = true := by
  intro v hv
  obtain ⟨t, _, h⟩ := List.mem_flatMap.1 hv
  simp at h
  rcases h with rfl | rfl <;> rfl
section
variable {B m : Nat} {t t' : Tbl} {vs : Nat → Value} {ve : Value} {w w1 w2 : World}
/-- A slot's row is another one. -/
theorem Lt.row (h : Lt B m t vs ve w) (i : Nat) (hi : i < 4) (v : Value) (l : List Ans) (w1 : World) (hv : w1.ownsRow B 105 2 v l.length (flatA l)) (F : Far (fun j => (vs i).ownBlock = some j) w w1) (ho : v.ownBlock = (vs i).ownBlock ∨ ∀ b, v.ownBlock = some b → w.heap.size ≤ b) (ok : (t.set i ⟨(t.sl i).s, l⟩).Ok) :
    Lt B m (t.set i ⟨(t.sl i).s, l⟩) (upd vs i v) ve (w1.setCell ⟨m, 2 + i * 5 + 4, none⟩ v) ∧ Far (OwnL m vs ve) w (w1.setCell ⟨m, 2 + i * 5 + 4, none⟩ v) ∧ ∀ k, OwnL m (upd vs i v) ve k → OwnL m vs ve k ∨ w.heap.size ≤ k := by
  have hs := sl_set t h.ok.four i hi ⟨(t.sl i).s, l⟩
  have hob : ∀ j, upd vs i v j = if j = i then v else vs j := fun j => rfl
  have hvb : ∀ b, v.ownBlock = some b → (vs i).ownBlock = some b ∨ w.heap.size ≤ b := fun b hb => by
    rcases ho with ho | ho
    · exact .inl (by rw [← ho]; exact hb)
    · exact .inr (ho b hb)
  have hvm : ∀ b, v.ownBlock = some b → b ≠ m := fun b hb e => by
    rcases hvb b hb with h1 | h1
    · exact h.vm i hi (by rw [h1, e])
    · have := h.blk.lt; omega
  have F2 : Far (fun j => j = m) w1 (w1.setCell ⟨m, 2 + i * 5 + 4, none⟩ v) := (Far.refl (fun j => j = m) w1).setCell (p := ⟨m, 2 + i * 5 + 4, none⟩) (fun _ => rfl) v
  have b1 := h.blk.far F (h.vm i hi)
  have b2 := b1.set (2 + i * 5 + 4) v
  rw [tC_set_kept t h.ok.four vs ve i hi v l] at b2
  have olt : ∀ j, j < 4 → ∀ b, (vs j).ownBlock = some b → b < w.heap.size := fun j hj b hb => ((h.rows j hj).lt b hb).2
  refine ⟨{ blk := b2, rows := fun j hj => ?_, ended := ?_, ok := ok, few := h.few, mB := h.mB, vm := fun j hj e => ?_, em := h.em, ev := fun j hj b hb => ?_, vv := fun j k hj hk hne b hb => ?_ }, ?_, ?_⟩
  · rw [hob, hs]
    by_cases e : j = i
    · rw [if_pos e, if_pos e]
      exact own_far hv F2 hvm
    · rw [if_neg e, if_neg e]
      exact own_far (own_far (h.rows j hj) F (fun b hb e2 => h.vv j i hj hi e b hb e2)) F2 (fun b hb e2 => h.vm j hj (by rw [hb, e2]))
  · exact own_far (own_far h.ended F (fun b hb e2 => h.ev i hi b e2 hb)) F2 (fun b hb e2 => h.em (by rw [hb, e2]))
  · rw [hob] at e
    by_cases e2 : j = i
    · rw [if_pos e2] at e; exact hvm m e rfl
    · rw [if_neg e2] at e; exact h.vm j hj e
  · rw [hob] at hb
    by_cases e2 : j = i
    · rw [if_pos e2] at hb
      rcases hvb b hb with h1 | h1
      · exact h.ev i hi b h1
      · exact fun e3 => by have := (h.ended.lt b e3).2; omega
    · rw [if_neg e2] at hb; exact h.ev j hj b hb
  · rw [hob] at hb ⊢
    by_cases e2 : j = i
    · rw [if_pos e2] at hb
      rw [if_neg (fun e3 => hne (e2.trans e3.symm))]
      rcases hvb b hb with h1 | h1
      · exact h.vv i k hi hk (fun e3 => hne (e2.trans e3)) b h1
      · exact fun e3 => by have := olt k hk b e3; omega
    · rw [if_neg e2] at hb
      by_cases e3 : k = i
      · rw [if_pos e3]
        intro e4
        rcases hvb b e4 with h1 | h1
        · exact h.vv j i hj hi e2 b hb h1
        · have := olt j hj b hb; omega
      · rw [if_neg e3]; exact h.vv j k hj hk hne b hb
  · exact (F.mono (S' := OwnL m vs ve) (fun j _ e => .inr (.inl ⟨i, hi, e⟩))).trans F2 (fun j _ e => .inl e)
  · rintro k (rfl | ⟨j, hj, hb⟩ | hb)
    · exact .inl (.inl rfl)
    · rw [hob] at hb
      by_cases e2 : j = i
      · rw [if_pos e2] at hb
        exact (hvb k hb).imp (fun h1 => .inr (.inl ⟨i, hi, h1⟩)) id
      · rw [if_neg e2] at hb; exact .inl (.inr (.inl ⟨j, hj, hb⟩))
    · exact .inl (.inr (.inr hb))
/-- What lies ahead of Store's append. -/
theorem store_mid {t1 : Tbl} {A : Option Addr} {c i n : Nat} {l : List Ans} (hi : i < 4) (seq : Int) (reply : ByteArray) (w1 : World) (L : Lt B m t1 vs ve (w1.setCell ⟨m, 2 + i * 5 + 3, none⟩ (.int .i64 seq))) (hv : vs i = .slice A n c) (hl : (t1.sl i).kept = l) (hn : l.length = n) :
    ((w1.setCell ⟨m, 2 + i * 5 + 3, none⟩ (.int .i64 seq)).alloc (.cells #[.int .i64 seq, .string reply] 105)).ownsRow B 105 2 (.slice A n c) n (flatA l) ∧
    (∀ j y, [Value.int .i64 seq, .string reply][j]? = some y → ((w1.setCell ⟨m, 2 + i * 5 + 3, none⟩ (.int .i64 seq)).alloc (.cells #[.int .i64 seq, .string reply] 105)).cell? ⟨w1.heap.size, 0 + j, none⟩ = some y) ∧
    B ≤ ((w1.setCell ⟨m, 2 + i * 5 + 3, none⟩ (.int .i64 seq)).alloc (.cells #[.int .i64 seq, .string reply] 105)).heap.size ∧
    ∀ v5 w5, w5.ownsRow B 105 2 v5 (n + 1) (flatA l ++ [.int .i64 seq, .string reply]) → ((w1.setCell ⟨m, 2 + i * 5 + 3, none⟩ (.int .i64 seq)).alloc (.cells #[.int .i64 seq, .string reply] 105)).grownBy w5 (Value.slice A n c).ownBlock →
      (v5.ownBlock = (Value.slice A n c).ownBlock ∨ v5.ownBlock = some ((w1.setCell ⟨m, 2 + i * 5 + 3, none⟩ (.int .i64 seq)).alloc (.cells #[.int .i64 seq, .string reply] 105)).heap.size) → (t1.set i ⟨(t1.sl i).s, l ++ [(seq, reply)]⟩).Ok →
      w5.cell? ⟨m, 2 + i * 5 + 4, none⟩ = some (.slice A n c) ∧ w5.frozen? ⟨m, 2 + i * 5 + 4, none⟩ = false ∧
      (Lt B m (t1.set i ⟨(t1.sl i).s, l ++ [(seq, reply)]⟩) (upd vs i v5) ve (w5.setCell ⟨m, 2 + i * 5 + 4, none⟩ v5) ∧ Far (OwnL m vs ve) (w1.setCell ⟨m, 2 + i * 5 + 3, none⟩ (.int .i64 seq)) (w5.setCell ⟨m, 2 + i * 5 + 4, none⟩ v5) ∧ ∀ k, OwnL m (upd vs i v5) ve k → OwnL m vs ve k ∨ (w1.setCell ⟨m, 2 + i * 5 + 3, none⟩ (.int .i64 seq)).heap.size ≤ k) := by
  obtain ⟨W, hW⟩ : ∃ W, W = w1.setCell ⟨m, 2 + i * 5 + 3, none⟩ (.int .i64 seq) := ⟨_, rfl⟩
  have hsz : w1.heap.size = W.heap.size := by rw [hW]; simp
  rw [← hW] at L ⊢
  have ho := L.rows i hi
  rw [hv, hl, hn] at ho
  refine ⟨World.ownsRow.alloc ho _, by rw [hsz]; exact new_cells W 105 [.int .i64 seq, .string reply], by have := L.blk.lt; have := L.mB; simp; omega, fun v5 w5 own5 gr5 ho5 ok5 => ?_⟩
  have F : Far (fun j => (vs i).ownBlock = some j) W w5 := by
    rw [hv]
    exact ((Far.refl _ W).alloc _).grown gr5 (fun j _ hj => hj)
  have b5 := L.blk.far F (L.vm i hi)
  refine ⟨by rw [b5.cell, tC_kept t1 vs ve i hi, hv], b5.frozen _, L.row i hi v5 (l ++ [(seq, reply)]) w5 ?_ F ?_ ok5⟩
  · rw [flatA_append, List.length_append, hn]
    exact own5
  · rw [hv]
    exact ho5.imp id (fun h b hb => by rw [h] at hb; cases hb; simp)
theorem store_end {t2 : Tbl} {vs2 : Nat → Value} {i n : Nat} {v5 : Value} (hi : i < 4) (L2 : Lt B m t2 vs2 ve w) (hv : vs2 i = v5) (hn : (t2.sl i).kept.length = n + 1) (hn2 : n = 2) (ok : (t2.set i ⟨(t2.sl i).s, (t2.sl i).kept.drop 1⟩).Ok) :
    Calls Try.prog 49 #[v5, .int .i64 0, .int .i64 1] w fun e w7 => ∃ A6 n6 c6, e = .returned (.slice A6 n6 c6) ∧ w7.cell? ⟨m, 2 + i * 5 + 4, none⟩ = some v5 ∧ w7.frozen? ⟨m, 2 + i * 5 + 4, none⟩ = false ∧
      (Lt B m (t2.set i ⟨(t2.sl i).s, (t2.sl i).kept.drop 1⟩) (upd vs2 i (.slice A6 n6 c6)) ve (w7.setCell ⟨m, 2 + i * 5 + 4, none⟩ (.slice A6 n6 c6)) ∧ Far (OwnL m vs2 ve) w (w7.setCell ⟨m, 2 + i * 5 + 4, none⟩ (.slice A6 n6 c6)) ∧ ∀ k, OwnL m (upd vs2 i (.slice A6 n6 c6)) ve k → OwnL m vs2 ve k ∨ w.heap.size ≤ k) := by
  have ho := L2.rows i hi
  rw [hn] at ho
  have hd := del_Anss B (vs2 i) (n + 1) 1 (flatA (t2.sl i).kept) w ho (by decide) (by omega) (by omega) (flatA_one _)
  rw [hv] at hd
  refine hd.mono ?_
  rintro e w7 ⟨v6, rfl, own6, ho6, F6⟩
  rw [← hv] at ho6 F6
  obtain ⟨A6, c6, hv6, _, _⟩ := Vs.of_own own6 own6.1
  have hdr : (t2.sl i).kept.drop 1 = (t2.sl i).kept.drop 1 := rfl
  have hl : ((t2.sl i).kept.drop 1).length = n + 1 - 1 := by rw [List.length_drop, hn]
  have b7 := L2.blk.far F6 (L2.vm i hi)
  have R := L2.row i hi v6 ((t2.sl i).kept.drop 1) w7 (by rw [hl, flatA_drop]; exact own6) F6 (.inl ho6) ok
  rw [hv6] at R ⊢
  exact ⟨A6, _, c6, rfl, by rw [b7.cell, tC_kept t2 vs2 ve i hi, hv], b7.frozen _, R⟩
theorem lastN_two {α : Type} (l : List α) (x : α) (h : l.length + 1 ≤ 2) : lastN 2 (l ++ [x]) = l ++ [x] := by
  unfold lastN
  rw [List.length_append, show l.length + [x].length - 2 = 0 by simp; omega, List.drop_zero]
theorem lastN_three {α : Type} (l : List α) (x : α) (h : l.length = 2) : lastN 2 (l ++ [x]) = (l ++ [x]).drop 1 := by
  unfold lastN
  rw [List.length_append, h]
  rfl
theorem set_set (t : Tbl) (i : Nat) (x y : Slo) : (t.set i x).set i y = t.set i y := by
  unfold Tbl.set
  simp
set_option maxRecDepth 100000 in
set_option maxHeartbeats 4000000 in
theorem store_any (h : Lt B m t vs ve w) (hk2 : ∀ i, i < 4 → (t.sl i).kept.length ≤ 2) (id seq : Int) (reply : ByteArray) :
    Calls Try.prog 23 #[.pointer (some ⟨m, 0, none⟩), .int .i64 id, .int .i64 seq, .string reply] w fun e w' => e = .returned (.int .i64 (t.store id seq reply).2) ∧ Stp B m vs ve w (t.store id seq reply).1 w' := by
  have TH := Lib.hid (h.there id)
  have HL := Lib.hid h
  unfold Tbl.store
  cases hth : t.there id with
  | none =>
    rw [hth] at TH
    unfold ptrO errO at TH
    simp only at TH ⊢
    have NU := Lib.hid (fun W => number_5 id W)
    clear h
    go_enter Try.func23, Try.ntmps23
    go_wp2_with (first
      | (go_at_call 46; refine TH.out.mono ?_; rintro e w1 ⟨rfl, hb⟩; have B1 := Lib.hid ((Bl.start w).call hb); clear hb)
      | (go_at_call 45; refine (NU.out _).mono ?_; rintro e w2 ⟨rfl, hb⟩; have B2 := Lib.hid (B1.out.call hb); clear hb))
    go_ret
    exact ⟨rfl, Stp.same HL.out B2.out.1⟩
  | some i =>
    obtain ⟨hi, hid, h0⟩ := there_facts hth
    rw [hth] at TH
    unfold ptrO errO slotP at TH
    simp only at TH ⊢
    have HIT := Lib.hid (fun W hb => h.hit i hi W hb)
    have hkk := hk2 i hi
    obtain ⟨x3, hx3⟩ : ∃ z, z = (t.sl i).s.last := ⟨_, rfl⟩
    have HX := Lib.hid hx3
    rw [← hx3]
    by_cases hq : seq ≤ x3
    · rw [if_pos hq]
      clear h hx3 hth hi hid h0 hkk hk2
      go_enter Try.func23, Try.ntmps23
      go_wp2_with ((go_at_call 46; refine TH.out.mono ?_; rintro e w1 ⟨rfl, hb⟩; have B1 := Lib.hid hb; have HW := HIT.out w1 hb; have d3 := HW.c3; rw [← HX.out] at d3; clear hb HW))
      go_ret
      exact ⟨rfl, Stp.same HL.out B1.out⟩
    · rw [if_neg hq]
      obtain ⟨A, c, hv, _, _⟩ := Vs.of_own (h.rows i hi) (flatA_length _)
      obtain ⟨l, hl⟩ : ∃ z, z = (t.sl i).kept := ⟨_, rfl⟩
      have HV := Lib.hid hv
      have hne0 : t.id i ≠ 0 := by rw [hid]; exact h0
      have ok1 := (set_ok h.ok i hi ⟨{ (t.sl i).s with last := seq }, (t.sl i).kept⟩ rfl hne0 (by show (t.sl i).kept.length ≤ 3; omega)).1
      have SC := Lib.hid (tC_set_last t h.ok.four vs ve i hi seq)
      have KE : Hid (∀ j, j < 4 → ((t.set i ⟨{ (t.sl i).s with last := seq }, (t.sl i).kept⟩).sl j).kept = (t.sl j).kept) := Lib.hid (fun j _ => by
        rw [sl_set t HL.out.ok.four i hi]
        by_cases e : j = i
        · rw [if_pos e, e]
        · rw [if_neg e])
      have LC := Lib.hid (fun w1 hb => HL.out.cell (w1 := w1) hb _ _ SC.out KE.out rfl ok1)
      obtain ⟨t1, ht1⟩ : ∃ z, z = t.set i ⟨{ (t.sl i).s with last := seq }, (t.sl i).kept⟩ := ⟨_, rfl⟩
      have hs1 : t1.sl i = ⟨{ (t.sl i).s with last := seq }, (t.sl i).kept⟩ := by rw [ht1, sl_set t h.ok.four i hi, if_pos rfl]
      have hid1 : t1.id i ≠ 0 := by unfold Tbl.id; rw [hs1]; exact hne0
      rw [← ht1] at LC ok1
      have OK2 : Hid (∀ l' : List Ans, l'.length ≤ 3 → (t1.set i ⟨(t1.sl i).s, l'⟩).Ok) := Lib.hid (fun l' h' => (set_ok ok1 i hi ⟨(t1.sl i).s, l'⟩ rfl hid1 h').1)
      have TE : Hid (∀ l' : List Ans, t1.set i ⟨(t1.sl i).s, l'⟩ = t.set i ⟨{ (t.sl i).s with last := seq }, l'⟩) := Lib.hid (fun l' => by rw [hs1, ht1, set_set])
      have HS1 := Lib.hid hs1
      have HI := Lib.hid hi
      have HLL := Lib.hid hl
      rw [← hl] at hv hkk HV
      rw [← hl]
      have q0 : ¬ seq ≤ x3 := hq
      clear h hx3 hth hi hid h0 hk2 hne0 ok1 ht1 hs1 hid1 hv hl
      obtain ⟨n, hn⟩ : ∃ n, n = l.length := ⟨_, rfl⟩
      have HNL := Lib.hid hn
      rw [← hn] at hkk HV
      have HK1 : Hid ((t1.sl i).kept = l) := Lib.hid (by rw [HS1.out, HLL.out])
      have MID := Lib.hid (fun w1 hb => store_mid HI.out seq reply w1 (LC.out w1 hb).1 HV.out HK1.out HNL.out.symm)
      have N1 : Hid (n + 1 ≤ 1000000) := Lib.hid (by omega)
      have OK3 := Lib.hid (OK2.out (l ++ [(seq, reply)]) (by rw [List.length_append, ← HNL.out]; simp; omega))
      clear hn
      by_cases hn2 : n = 2
      · have wk : IntKind.i64.wrap ((n : Int) + 1 - 2) = 1 := by rw [show (n : Int) + 1 - 2 = 1 by omega]; rfl
        have wk2 : IntKind.i64.wrap (((n + 1 : Nat) : Int) - 2) = 1 := by rw [show ((n + 1 : Nat) : Int) = (n : Int) + 1 from rfl]; exact wk
        have HN2 := Lib.hid hn2
        have SE : Hid (∀ (v5 : Value) (w6 : World), Lt B m (t1.set i ⟨(t1.sl i).s, l ++ [(seq, reply)]⟩) (upd vs i v5) ve w6 → _) := Lib.hid (fun v5 w6 (L2 : Lt B m (t1.set i ⟨(t1.sl i).s, l ++ [(seq, reply)]⟩) (upd vs i v5) ve w6) => by
          have h4 := (LC.out w (Below.refl _ _)).1.ok.four
          have hsl : (t1.set i ⟨(t1.sl i).s, l ++ [(seq, reply)]⟩).sl i = ⟨(t1.sl i).s, l ++ [(seq, reply)]⟩ := by rw [sl_set t1 h4 i HI.out, if_pos rfl]
          exact store_end (v5 := v5) (n := n) HI.out L2 (by unfold upd; rw [if_pos rfl]) (by rw [hsl]; simp [← HNL.out]) HN2.out (by rw [hsl, set_set]; exact OK2.out _ (by rw [List.length_drop, List.length_append, ← HNL.out]; simp; omega)))
        clear hn2
        go_enter Try.func23, Try.ntmps23
        go_wp2_with (first
          | ((go_at_call 46; refine TH.out.mono ?_; rintro e w1 ⟨rfl, hb⟩; (have B1 := Lib.hid hb); (have HW := HIT.out w1 hb); (have d3 := HW.c3); (rw [← HX.out] at d3); (have f3 := HW.f (2 + i * 5 + 3)); (have f4 := HW.f (2 + i * 5 + 4)); (have d4 := HW.c4); (rw [HV.out] at d4); (have L1 := Lib.hid (LC.out w1 hb)); (have M1 := Lib.hid (MID.out w1 hb)); (clear hb HW)))
          | (at_builtin; (refine wpList_append_own (k := 2) (T := 105) (S := 87) elemAns infoAns rfl (by decide) (by decide) rfl _ _ rfl rfl B _ _ (flatA l) w1.heap.size 0 1 1 [.int .i64 seq, .string reply] rfl rfl M1.out.1 rfl M1.out.2.1 (by simp [Value.oneCell']) N1.out M1.out.2.2.1 ?_); intro v5 w5 own5 gr5 ho5; (obtain ⟨A5, c5, rfl, _, _⟩ := Vs.of_own own5 own5.1); (have M2 := Lib.hid (M1.out.2.2.2 _ w5 own5 gr5 ho5 OK3.out)); (have e4 := M2.out.1); (have g4 := M2.out.2.1); (have S1 := Lib.hid (SE.out _ _ M2.out.2.2.1)); (clear own5 gr5 ho5))
          | ((go_at_call 49; refine S1.out.mono ?_; rintro e w7 ⟨A6, n6, c6, rfl, e5, g5, hR⟩; (have R7 := Lib.hid hR); clear hR)))
        go_ret
        refine ⟨rfl, ?_⟩
        rw [lastN_three l _ (by rw [← HNL.out]; exact HN2.out)]
        have h4 := L1.out.1.ok.four
        have hsl : (t1.set i ⟨(t1.sl i).s, l ++ [(seq, reply)]⟩).sl i = ⟨(t1.sl i).s, l ++ [(seq, reply)]⟩ := by rw [sl_set t1 h4 i HI.out, if_pos rfl]
        have R := R7.out
        have M := M2.out.2.2
        rw [hsl] at R
        simp only [set_set] at R
        rw [TE.out] at R
        have hsz := L1.out.2.size
        have hsz2 := M.2.1.size
        refine ⟨_, ve, R.1, (L1.out.2.trans M.2.1 (fun _ _ e => e)).trans R.2.1 (fun k hk e => (M.2.2 k e).resolve_right (by omega)), fun k hk => ?_⟩
        rcases R.2.2 k hk with h1 | h1
        · exact (M.2.2 k h1).imp (fun h => h) (fun h => Nat.le_trans hsz h)
        · exact .inr (by omega)
      · have q1 : ¬ (n : Int) + 1 - 2 > 0 := by omega
        have wk : IntKind.i64.wrap ((n : Int) + 1 - 2) = (n : Int) + 1 - 2 := IntWalk.i64_in _ (by omega)
        have wk2 : IntKind.i64.wrap (((n + 1 : Nat) : Int) - 2) = (n : Int) + 1 - 2 := by rw [show ((n + 1 : Nat) : Int) = (n : Int) + 1 from rfl]; exact wk
        go_enter Try.func23, Try.ntmps23
        go_wp2_with (first
          | ((go_at_call 46; refine TH.out.mono ?_; rintro e w1 ⟨rfl, hb⟩; (have B1 := Lib.hid hb); (have HW := HIT.out w1 hb); (have d3 := HW.c3); (rw [← HX.out] at d3); (have f3 := HW.f (2 + i * 5 + 3)); (have f4 := HW.f (2 + i * 5 + 4)); (have d4 := HW.c4); (rw [HV.out] at d4); (have L1 := Lib.hid (LC.out w1 hb)); (have M1 := Lib.hid (MID.out w1 hb)); (clear hb HW)))
          | (at_builtin; (refine wpList_append_own (k := 2) (T := 105) (S := 87) elemAns infoAns rfl (by decide) (by decide) rfl _ _ rfl rfl B _ _ (flatA l) w1.heap.size 0 1 1 [.int .i64 seq, .string reply] rfl rfl M1.out.1 rfl M1.out.2.1 (by simp [Value.oneCell']) N1.out M1.out.2.2.1 ?_); intro v5 w5 own5 gr5 ho5; (obtain ⟨A5, c5, rfl, _, _⟩ := Vs.of_own own5 own5.1); (have M2 := Lib.hid (M1.out.2.2.2 _ w5 own5 gr5 ho5 OK3.out)); (have e4 := M2.out.1); (have g4 := M2.out.2.1); (clear own5 gr5 ho5)))
        go_ret
        refine ⟨rfl, ?_⟩
        rw [lastN_two l _ (by rw [← HNL.out]; omega)]
        have R := M2.out.2.2
        rw [TE.out] at R
        exact ⟨_, ve, R.1, L1.out.2.trans R.2.1 (fun _ _ e => e), fun k hk => (R.2.2 k hk).imp (fun h => h) (fun h => Nat.le_trans L1.out.2.size h)⟩
end
end Go.Proofs.Ytjladlniilacjaa
