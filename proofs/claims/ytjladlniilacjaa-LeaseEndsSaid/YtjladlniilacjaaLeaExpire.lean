/-
  Package lease: Expire.
-/
import Derived.Test.YtjladlniilacjaaLeaStore
import Derived.Test.YtjladlniilacjaaDelInts
import Derived.WalkMore
namespace Go.Proofs.Lea
theorem endAll_append (clock : Int) : ∀ (l r : List Nat) (t : Tbl), t.endAll clock (l ++ r) = (t.endAll clock l).endAll clock r
  | [], _, _ => rfl
  | i :: l, r, t => by
    show (if clock < (t.sl i).s.dead then t.endAll clock (l ++ r) else (t.endOne i).endAll clock (l ++ r)) = _
    by_cases h : clock < (t.sl i).s.dead
    · rw [if_pos h, endAll_append clock l r t]
      show _ = (if clock < (t.sl i).s.dead then t.endAll clock l else (t.endOne i).endAll clock l).endAll clock r
      rw [if_pos h]
    · rw [if_neg h, endAll_append clock l r (t.endOne i)]
      show _ = (if clock < (t.sl i).s.dead then t.endAll clock l else (t.endOne i).endAll clock l).endAll clock r
      rw [if_neg h]
theorem end_sl {t : Tbl} (h4 : t.slots.length = 4) (i : Nat) (hi : i < 4) (j : Nat) : (t.endOne i).sl j = if j = i then o0 else t.sl j := sl_set t h4 i hi o0 j
/-- A slot that isn't among those that end is as it was. -/
theorem endAll_sl (clock : Int) : ∀ (l : List Nat) (t : Tbl), t.slots.length = 4 → (∀ i ∈ l, i < 4) → ∀ j, j ∉ l → (t.endAll clock l).sl j = t.sl j
  | [], _, _, _, _, _ => rfl
  | i :: l, t, h4, hl, j, hj => by
    have hji : j ≠ i := fun e => hj (by rw [e]; exact List.mem_cons_self ..)
    have hjl : j ∉ l := fun e => hj (List.mem_cons_of_mem _ e)
    show (if clock < (t.sl i).s.dead then t.endAll clock l else (t.endOne i).endAll clock l).sl j = _
    by_cases h : clock < (t.sl i).s.dead
    · rw [if_pos h]; exact endAll_sl clock l t h4 (fun i hi => hl i (List.mem_cons_of_mem _ hi)) j hjl
    · rw [if_neg h, endAll_sl clock l (t.endOne i) (by simp [Tbl.endOne, h4]) (fun i hi => hl i (List.mem_cons_of_mem _ hi)) j hjl, end_sl h4 i (hl i (List.mem_cons_self ..)), if_neg hji]
end Go.Proofs.Lea
namespace Go.Proofs.Ytjladlniilacjaa
open Go.RowKit Go.Proofs.Lea
set_option linter.unusedVariables false
set_option linter.unusedSimpArgs false
section
variable {B m : Nat} {t t' : Tbl} {vs : Nat → Value} {ve : Value} {w w1 w2 : World}
/-- A slot ends. -/
theorem Lt.ends (h : Lt B m t vs ve w) (i : Nat) (hi : i < 4) (h0 : t.id i ≠ 0) (v : Value) (w6 : World) (hv : w6.ownsRow B 3 1 v (t.ended.length + 1) (ints t.ended ++ [.int .i64 (t.id i)])) (F : Far (fun j => ve.ownBlock = some j) w w6) (ho : v.ownBlock = ve.ownBlock ∨ ∀ b, v.ownBlock = some b → w.heap.size ≤ b) (hf : t.ended.length + 1 ≤ 100) (w7 : World)
    (hw7 : w7 = (((((w6.setCell ⟨m, 23, none⟩ v).setCell ⟨m, 2 + i * 5, none⟩ (.int .i64 0)).setCell ⟨m, 2 + i * 5 + 1, none⟩ (.int .i64 0)).setCell ⟨m, 2 + i * 5 + 2, none⟩ (.int .i64 0)).setCell ⟨m, 2 + i * 5 + 3, none⟩ (.int .i64 0)).setCell ⟨m, 2 + i * 5 + 4, none⟩ (.slice none 0 0)) :
    Lt B m (t.endOne i) (upd vs i (.slice none 0 0)) v w7 ∧ Far (OwnL m vs ve) w w7 ∧ ∀ k, OwnL m (upd vs i (.slice none 0 0)) v k → OwnL m vs ve k ∨ w.heap.size ≤ k := by
  have hvb : ∀ b, v.ownBlock = some b → ve.ownBlock = some b ∨ w.heap.size ≤ b := fun b hb => by
    rcases ho with ho | ho
    · exact .inl (by rw [← ho]; exact hb)
    · exact .inr (ho b hb)
  have hvm : ∀ b, v.ownBlock = some b → b ≠ m := fun b hb e => by
    rcases hvb b hb with h1 | h1
    · exact h.em (by rw [h1, e])
    · have := h.blk.lt; omega
  have F2 : Far (fun j => j = m) w6 w7 := by
    rw [hw7]
    exact ((((((Far.refl (fun j => j = m) w6).setCell (p := ⟨m, 23, none⟩) (fun _ => rfl) v).setCell (p := ⟨m, 2 + i * 5, none⟩) (fun _ => rfl) _).setCell (p := ⟨m, 2 + i * 5 + 1, none⟩) (fun _ => rfl) _).setCell (p := ⟨m, 2 + i * 5 + 2, none⟩) (fun _ => rfl) _).setCell (p := ⟨m, 2 + i * 5 + 3, none⟩) (fun _ => rfl) _).setCell (p := ⟨m, 2 + i * 5 + 4, none⟩) (fun _ => rfl) _
  have b6 := h.blk.far F h.em
  have b7 := (((((b6.set 23 v).set (2 + i * 5) (.int .i64 0)).set (2 + i * 5 + 1) (.int .i64 0)).set (2 + i * 5 + 2) (.int .i64 0)).set (2 + i * 5 + 3) (.int .i64 0)).set (2 + i * 5 + 4) (.slice none 0 0)
  rw [← hw7] at b7
  have he : (tC t vs ve).setIfInBounds 23 v = tC { t with ended := t.ended ++ [t.id i] } vs v := rfl
  rw [he] at b7
  have h5 := tC_five { t with ended := t.ended ++ [t.id i] } h.ok.four vs v (.slice none 0 0) i hi o0
  rw [show (o0.s.id) = 0 from rfl, show (o0.s.block) = 0 from rfl, show (o0.s.dead) = 0 from rfl, show (o0.s.last) = 0 from rfl] at h5
  rw [h5] at b7
  have hob : ∀ j, upd vs i (.slice none 0 0) j = if j = i then .slice none 0 0 else vs j := fun j => rfl
  have hes := end_sl h.ok.four i hi
  refine ⟨{ blk := b7, rows := fun j hj => ?_, ended := ?_, ok := end_ok h.ok i hi h0, few := by show (t.ended ++ [t.id i]).length ≤ 100; simp; omega, mB := h.mB, vm := fun j hj e => ?_, em := fun e => hvm m e rfl, ev := fun j hj b hb => ?_, vv := fun j k hj hk hne b hb => ?_ }, ?_, ?_⟩
  · rw [hob, hes]
    by_cases e : j = i
    · rw [if_pos e, if_pos e]; exact ownsRow_nil _ _ _ _
    · rw [if_neg e, if_neg e]
      exact own_far (own_far (h.rows j hj) F (fun b hb e2 => h.ev j hj b hb e2)) F2 (fun b hb e2 => h.vm j hj (by rw [hb, e2]))
  · show w7.ownsRow B 3 1 v (t.ended ++ [t.id i]).length (ints (t.ended ++ [t.id i]))
    rw [List.length_append, show ints (t.ended ++ [t.id i]) = ints t.ended ++ [.int .i64 (t.id i)] by simp [ints]]
    exact own_far hv F2 hvm
  · rw [hob] at e
    by_cases e2 : j = i
    · rw [if_pos e2] at e; cases e
    · rw [if_neg e2] at e; exact h.vm j hj e
  · rw [hob] at hb
    by_cases e2 : j = i
    · rw [if_pos e2] at hb; cases hb
    · rw [if_neg e2] at hb
      intro e3
      rcases hvb b e3 with h1 | h1
      · exact h.ev j hj b hb h1
      · have := ((h.rows j hj).lt b hb).2; omega
  · rw [hob] at hb ⊢
    by_cases e2 : j = i
    · rw [if_pos e2] at hb; cases hb
    · rw [if_neg e2] at hb
      by_cases e3 : k = i
      · rw [if_pos e3]; exact nilOwn b
      · rw [if_neg e3]; exact h.vv j k hj hk hne b hb
  · exact (F.mono (S' := OwnL m vs ve) (fun j _ e => .inr (.inr e))).trans F2 (fun j _ e => .inl e)
  · rintro k (rfl | ⟨j, hj, hb⟩ | hb)
    · exact .inl (.inl rfl)
    · rw [hob] at hb
      by_cases e2 : j = i
      · rw [if_pos e2] at hb; cases hb
      · rw [if_neg e2] at hb; exact .inl (.inr (.inl ⟨j, hj, hb⟩))
    · exact (hvb k hb).imp (fun h1 => .inr (.inr h1)) (fun h => h)
theorem elemInts1 : Try.prog.underlying 60 = some (.slice 3) := by kernel_rfl
theorem info1 : (Try.prog.info? 3).map (fun i => (i.zero, i.size, i.bytes)) = some (some (.int .i64 0), 1, 8) := by kernel_rfl
/-- What the loop of Expire has, behind k of its rounds. -/
structure Xp (B m : Nat) (t : Tbl) (vs : Nat → Value) (ve : Value) (clock : Int) (w1 : World) (k : Nat) (va : Value) (vs' : Nat → Value) (ve' : Value) (wr : World) : Prop where
  lt : Lt B m (t.endAll clock (t.used.take k)) vs' ve' wr
  far : Far (OwnL m vs ve) w1 wr
  own : ∀ j, OwnL m vs' ve' j → OwnL m vs ve j ∨ w1.heap.size ≤ j
  row : wr.ownsRow w1.heap.size 29 4 va (((t.used.take k).filter (fun i => decide ((t.sl i).s.dead ≤ clock))).map (fun i => (t.sl i).s)).length (flatS (((t.used.take k).filter (fun i => decide ((t.sl i).s.dead ≤ clock))).map (fun i => (t.sl i).s)))
  sep : ∀ b, va.ownBlock = some b → ¬ OwnL m vs' ve' b
  few : (t.endAll clock (t.used.take k)).ended.length ≤ t.ended.length + k
theorem ints_drop (l : List Int) (k : Nat) : ints (l.drop k) = (ints l).drop k := by unfold ints; rw [List.map_drop]
theorem Lt.cut (h : Lt B m t vs ve w) (v : Value) (l : List Int) (hl : ∀ e ∈ l, e ∈ t.ended) (hf : l.length ≤ 100) (w6 : World) (hv : w6.ownsRow B 3 1 v l.length (ints l)) (F : Far (fun j => ve.ownBlock = some j) w w6) (ho : v.ownBlock = ve.ownBlock) :
    Lt B m { t with ended := l } vs v (w6.setCell ⟨m, 23, none⟩ v) ∧ Far (OwnL m vs ve) w (w6.setCell ⟨m, 23, none⟩ v) ∧ ∀ k, OwnL m vs v k → OwnL m vs ve k := by
  have hvm : ∀ b, v.ownBlock = some b → b ≠ m := fun b hb e => h.em (by rw [← ho, hb, e])
  have F2 : Far (fun j => j = m) w6 (w6.setCell ⟨m, 23, none⟩ v) := (Far.refl (fun j => j = m) w6).setCell (p := ⟨m, 23, none⟩) (fun _ => rfl) v
  refine ⟨{ blk := (h.blk.far F h.em).set 23 v, rows := fun j hj => own_far (own_far (h.rows j hj) F (fun b hb e2 => h.ev j hj b hb e2)) F2 (fun b hb e2 => h.vm j hj (by rw [hb, e2])), ended := own_far hv F2 hvm, ok := ended_sub h.ok l hl, few := hf, mB := h.mB, vm := h.vm, em := fun e => hvm m e rfl, ev := fun j hj b hb => by rw [ho]; exact h.ev j hj b hb, vv := h.vv }, ?_, ?_⟩
  · exact (F.mono (S' := OwnL m vs ve) (fun j _ e => .inr (.inr e))).trans F2 (fun j _ e => .inl e)
  · rintro k (e | e | e)
    · exact .inl e
    · exact .inr (.inl e)
    · exact .inr (.inr (by rw [← ho]; exact e))
theorem xp_step {clock : Int} {k i : Nat} {va v5 v6 : Value} {vs' : Nat → Value} {ve' : Value} {wr w5 w6 w8 : World} {tk : Tbl} {sx : Ses} {R : List Ses} (HX : Xp B m t vs ve clock w1 k va vs' ve' wr)
    (htk : tk = t.endAll clock (t.used.take k)) (hR : R = ((t.used.take k).filter (fun i => decide ((t.sl i).s.dead ≤ clock))).map (fun i => (t.sl i).s)) (hi : t.used[k]? = some i) (hi4 : i < 4) (hs : sx = (t.sl i).s) (hsl : tk.sl i = t.sl i) (hid : sx.id ≠ 0) (hd : ¬ sx.dead > clock)
    (L5 : Lt B m tk vs' ve' w5) (F5 : Far (fun j => va.ownBlock = some j) wr w5) (O5 : w5.ownsRow w1.heap.size 29 4 v5 (R.length + 1) (flatS R ++ [.int .i64 sx.id, .int .i64 sx.block, .int .i64 sx.dead, .int .i64 sx.last])) (H5 : v5.ownBlock = va.ownBlock ∨ ∃ b, v5.ownBlock = some b ∧ wr.heap.size ≤ b)
    (O6 : w6.ownsRow B 3 1 v6 (tk.ended.length + 1) (ints tk.ended ++ [.int .i64 sx.id])) (F6 : Far (fun j => ve'.ownBlock = some j) w5 w6) (H6 : v6.ownBlock = ve'.ownBlock ∨ ∀ b, v6.ownBlock = some b → w5.heap.size ≤ b) (hf : tk.ended.length + 1 ≤ 100)
    (hw8 : w8 = (((((w6.setCell ⟨m, 23, none⟩ v6).setCell ⟨m, 2 + i * 5, none⟩ (.int .i64 0)).setCell ⟨m, 2 + i * 5 + 1, none⟩ (.int .i64 0)).setCell ⟨m, 2 + i * 5 + 2, none⟩ (.int .i64 0)).setCell ⟨m, 2 + i * 5 + 3, none⟩ (.int .i64 0)).setCell ⟨m, 2 + i * 5 + 4, none⟩ (.slice none 0 0)) :
    Xp B m t vs ve clock w1 (k + 1) v5 (upd vs' i (.slice none 0 0)) v6 w8 := by
  have hidk : tk.id i = sx.id := by unfold Tbl.id; rw [hsl, hs]
  obtain ⟨E1, E2, E3⟩ := L5.ends i hi4 (by rw [hidk]; exact hid) v6 w6 (by rw [hidk]; exact O6) F6 H6 hf w8 hw8
  have htake : t.used.take (k + 1) = t.used.take k ++ [i] := by rw [List.take_add_one, hi]; rfl
  have e1 : t.endAll clock (t.used.take (k + 1)) = tk.endOne i := by
    rw [htake, endAll_append, ← htk]
    show (if clock < (tk.sl i).s.dead then _ else (tk.endOne i).endAll clock []) = _
    rw [hsl, ← hs, if_neg (by omega)]
    rfl
  have e2 : ((t.used.take (k + 1)).filter (fun i => decide ((t.sl i).s.dead ≤ clock))).map (fun i => (t.sl i).s) = R ++ [sx] := by
    rw [htake, List.filter_append, List.map_append, ← hR]
    congr 1
    have : (t.sl i).s.dead ≤ clock := by rw [← hs]; omega
    simp [this, hs]
  have hs1 := HX.far.size
  have hs5 := F5.size
  have v5n : ∀ b, v5.ownBlock = some b → ¬ OwnL m vs' ve' b := fun b hb e => by
    rcases H5 with h1 | ⟨c, h1, h2⟩
    · exact HX.sep b (by rw [← h1]; exact hb) e
    · rw [hb] at h1
      cases h1
      have := (HX.lt.own b e).2
      omega
  refine { lt := by rw [e1]; exact E1, far := ?_, own := fun j hj => ?_, row := ?_, sep := fun b hb e => ?_, few := ?_ }
  · refine (HX.far.trans F5 (fun j hj e => ?_)).trans E2 (fun j hj e => ?_)
    · have := (HX.row.lt j e).1; omega
    · exact (HX.own j e).resolve_right (by omega)
  · rcases E3 j hj with h1 | h1
    · exact HX.own j h1
    · exact .inr (by omega)
  · rw [e2, flatS_append, List.length_append]
    exact own_far O5 E2 v5n
  · rcases E3 b e with h1 | h1
    · exact v5n b hb h1
    · have := (O5.lt b hb).2; omega
  · rw [e1]
    show (tk.ended ++ [tk.id i]).length ≤ _
    have := HX.few
    rw [← htk] at this
    simp
    omega
set_option maxRecDepth 100000 in
set_option maxHeartbeats 4000000 in
theorem expire_sep (h : Lt B m t vs ve w) (h8 : t.ended.length ≤ 50) (clock : Int) :
    Calls Try.prog 17 #[.pointer (some ⟨m, 0, none⟩), .int .i64 clock] w fun e w' => ∃ v, e = .returned v ∧ w'.ownsRow w.heap.size 29 4 v (t.expire clock).2.length (flatS (t.expire clock).2) ∧ ∃ vs' ve', Lt B m (t.expire clock).1 vs' ve' w' ∧ Far (OwnL m vs ve) w w' ∧ (∀ k, OwnL m vs' ve' k → OwnL m vs ve k ∨ w.heap.size ≤ k) ∧ ∀ b, v.ownBlock = some b → ¬ OwnL m vs' ve' b := by
  have US := Lib.hid (used_any m t vs ve w h.blk)
  have HL := Lib.hid h
  have UL := used_le t
  clear h
  go_enter Try.func17, Try.ntmps17
  go_wp2_with fail
  go_step3
  go_wp2_with fail
  go_step3
  go_wp2_with (go_at_call 42; refine US.out.mono ?_; rintro e w1 ⟨v, rfl, own, hb⟩; (obtain ⟨A, c, rfl, _, hS⟩ := Vs.of_own own (by simp)); (have OW := Lib.hid own); (have SS := Lib.hid hS); (have B1 := Lib.hid hb); (clear own hb hS))
  go_loopw [5, 7, 12] (fun vo _ vi wr => ∃ (k : Nat) (va : Value) (vs' : Nat → Value) (ve' : Value), va = vo ∧ vi = .int .i64 (k : Int) ∧ k ≤ t.used.length ∧ Hid (Xp B m t vs ve clock w1 k va vs' ve' wr)) (fun _ _ vi _ => t.used.length - (intOf vi).toNat)
  case atStart =>
    refine ⟨0, _, vs, ve, rfl, rfl, Nat.zero_le _, Lib.hid { lt := HL.out.below B1.out, far := Far.refl _ _, own := fun j hj => .inl hj, row := ownsRow_nil _ _ _ _, sep := fun b hb => absurd hb (nilOwn b), few := Nat.le_refl _ }⟩
  case round =>
    obtain ⟨k, va, vs', ve', rfl, rfl, hk, HX⟩ := hrel
    by_cases hlt : k < t.used.length
    · obtain ⟨i, hi⟩ : ∃ i, t.used[k]? = some i := ⟨_, List.getElem?_eq_getElem hlt⟩
      obtain ⟨b, o, rfl, _, hc⟩ := (SS.out.below (Below.refl _ _)).at_ k (slotP m i) (by rw [List.getElem?_map, hi]; rfl)
      have hi4 := ((used_mem t i).1 (List.mem_of_getElem? hi)).1
      have hblk := OW.out.lt b rfl
      have c0 : wr.cell? ⟨b, o + k, none⟩ = some (slotP m i) := by
        have h1 := hc k (slotP m i) (by rw [List.getElem?_map, hi]; rfl)
        have hno : ¬ OwnL m vs ve b := fun e => by have := (HL.out.own b e).2; omega
        rw [← h1]
        exact World.cell?_of_block (HX.out.far.block b hblk.2 hno)
      have hni : i ∉ t.used.take k := fun hm => by
        obtain ⟨j, hj⟩ := List.getElem?_of_mem hm
        have hjk : j < k := by have := (List.getElem?_eq_some_iff.1 hj).1; simp at this; omega
        rw [List.getElem?_take_of_lt hjk] at hj
        have h1 := List.nodup_iff_pairwise_ne.1 (used_nodup t)
        have h2 := List.pairwise_iff_getElem.1 h1 j k (List.getElem?_eq_some_iff.1 hj).1 hlt hjk
        rw [(List.getElem?_eq_some_iff.1 hj).2, (List.getElem?_eq_some_iff.1 hi).2] at h2
        exact h2 rfl
      have hsl : (t.endAll clock (t.used.take k)).sl i = t.sl i := endAll_sl clock _ t HL.out.ok.four (fun j hj => ((used_mem t j).1 (List.mem_of_mem_take hj)).1) i hni
      have HW := HX.out.lt.hit i hi4 wr (Below.refl _ _)
      have d0 := HW.c0
      have d1 := HW.c1
      have d2 := HW.c2
      have d3 := HW.c3
      rw [hsl] at d0 d1 d2 d3
      have i1 : (k : Int) < (t.used.length : Int) := by omega
      have wk : IntKind.i64.wrap ((k : Int) + 1) = (k : Int) + 1 := IntWalk.i64_in _ (by omega)
      have htake : t.used.take (k + 1) = t.used.take k ++ [i] := by rw [List.take_add_one, hi]; rfl
      obtain ⟨sx, hsx⟩ : ∃ s, s = (t.sl i).s := ⟨_, rfl⟩
      rw [← hsx] at d0 d1 d2 d3
      unfold slotP at c0
      by_cases hd : sx.dead > clock
      · have HN : Hid (Xp B m t vs ve clock w1 (k + 1) va vs' ve' wr) := Lib.hid (by
          have X := HX.out
          have e1 : t.endAll clock (t.used.take (k + 1)) = t.endAll clock (t.used.take k) := by
            rw [htake, endAll_append]
            show (if clock < ((t.endAll clock (t.used.take k)).sl i).s.dead then t.endAll clock (t.used.take k) else _) = _
            rw [hsl, ← hsx, if_pos hd]
          have e2 : (t.used.take (k + 1)).filter (fun i => decide ((t.sl i).s.dead ≤ clock)) = (t.used.take k).filter (fun i => decide ((t.sl i).s.dead ≤ clock)) := by
            rw [htake, List.filter_append]
            have : ¬ (t.sl i).s.dead ≤ clock := by rw [← hsx]; omega
            simp [this]
          exact { lt := by rw [e1]; exact X.lt, far := X.far, own := X.own, row := by rw [e2]; exact X.row, sep := X.sep, few := by rw [e1]; have := X.few; omega })
        have q1 : decide (sx.dead > clock) = true := decide_eq_true hd
        clear hi hc hi4 hblk hni hsl HW hsx hd htake
        go_wp2_with fail
        refine ⟨⟨k + 1, _, vs', ve', rfl, by go_num, by omega, HN⟩, by simp [intOf]; omega⟩
      · have q1 : decide (sx.dead > clock) = false := decide_eq_false hd
        have q2 : ¬ clock < sx.dead := by omega
        have hid : (t.sl i).s.id = t.id i := rfl
        obtain ⟨tk, htk⟩ : ∃ z, z = t.endAll clock (t.used.take k) := ⟨_, rfl⟩
        have hidk : tk.id i = sx.id := by unfold Tbl.id; rw [htk, hsl, hsx]
        have hid0 : sx.id ≠ 0 := by rw [hsx, hid]; exact ((used_mem t i).1 (List.mem_of_getElem? hi)).2
        obtain ⟨R, hR⟩ : ∃ z, z = ((t.used.take k).filter (fun i => decide ((t.sl i).s.dead ≤ clock))).map (fun i => (t.sl i).s) := ⟨_, rfl⟩
        have hrow := HX.out.row
        rw [← hR] at hrow
        have hRl : R.length ≤ 4 := by rw [hR, List.length_map]; exact Nat.le_trans (List.length_filter_le _ _) (by rw [List.length_take]; omega)
        have HT := Lib.hid HX.out.lt
        rw [← htk] at HT
        have N1 : Hid (R.length + 1 ≤ 1000000) := Lib.hid (by omega)
        have hsz := HX.out.far.size
        have N2 : Hid (w1.heap.size ≤ (wr.alloc (.cells #[.int .i64 sx.id, .int .i64 sx.block, .int .i64 sx.dead, .int .i64 sx.last] 29)).heap.size) := Lib.hid (by simp; omega)
        have NC := Lib.hid (new_cells wr 29 [.int .i64 sx.id, .int .i64 sx.block, .int .i64 sx.dead, .int .i64 sx.last])
        have HROW := Lib.hid hrow
        have L5F : Hid (∀ w5, (wr.alloc (.cells #[.int .i64 sx.id, .int .i64 sx.block, .int .i64 sx.dead, .int .i64 sx.last] 29)).grownBy w5 va.ownBlock → Lt B m tk vs' ve' w5 ∧ Far (fun j => va.ownBlock = some j) wr w5) := Lib.hid (fun w5 gr => by
          have F : Far (fun j => va.ownBlock = some j) wr w5 := ((Far.refl _ wr).alloc _).grown gr (fun j _ hj => hj)
          exact ⟨HT.out.far F (fun b hb e => HX.out.sep b e hb), F⟩)
        have HI4 := Lib.hid hi4
        have HIDK := Lib.hid hidk
        have HTK := Lib.hid htk
        have HRR := Lib.hid hR
        have HII := Lib.hid hi
        have HSX := Lib.hid hsx
        have HSL : Hid (tk.sl i = t.sl i) := Lib.hid (by rw [htk]; exact hsl)
        clear hi hc hblk hni hsl HW hsx hd htake hid htk hR hrow hRl hsz hi4 hidk
        go_wp2_with (at_builtin; (refine wpList_append_own (k := 4) (T := 29) (S := 30) elemSes infoSes rfl (by decide) (by decide) rfl _ _ rfl rfl w1.heap.size _ _ (flatS R) wr.heap.size 0 1 1 [.int .i64 sx.id, .int .i64 sx.block, .int .i64 sx.dead, .int .i64 sx.last] rfl rfl (World.ownsRow.alloc HROW.out _) rfl NC.out (by simp [Value.oneCell']) N1.out N2.out ?_); intro v5 w5 own5 gr5 ho5; (have O5 := Lib.hid own5); (have H5 := Lib.hid ho5); (have L5 := Lib.hid (L5F.out w5 gr5)); (clear own5 gr5 ho5))
        obtain ⟨A9, c9, hv9, _, _⟩ := Vs.of_own L5.out.1.ended (by simp [ints])
        have e23 : w5.cell? ⟨m, 23, none⟩ = some (.slice A9 tk.ended.length c9) := by rw [L5.out.1.blk.cell, ← hv9]; rfl
        have eid : w5.cell? ⟨m, 2 + i * 5, none⟩ = some (.int .i64 sx.id) := by rw [L5.out.1.blk.cell, tC_id tk vs' ve' i HI4.out, HIDK.out]
        have hfew := HX.out.few
        have hfk : tk.ended.length ≤ 60 := by
          have := L5.out.1.few
          have h9 := HX.out.few
          rw [show t.endAll clock (t.used.take k) = tk from HTK.out.symm] at h9
          omega
        have N3 : Hid (tk.ended.length + 1 ≤ 1000000) := Lib.hid (by omega)
        have N5 : Hid (tk.ended.length + 1 ≤ 100) := Lib.hid (by omega)
        have N4 : Hid (B ≤ ((w5.alloc (.cells #[.int .i64 sx.id] 3)).drew).heap.size) := Lib.hid (by have := L5.out.1.blk.lt; have := L5.out.1.mB; simp; omega)
        have OWN6 : Hid (((w5.alloc (.cells #[.int .i64 sx.id] 3)).drew).ownsRow B 3 1 (.slice A9 tk.ended.length c9) tk.ended.length (ints tk.ended)) := Lib.hid (by
          have h1 := L5.out.1.ended
          rw [hv9] at h1
          exact own_far (World.ownsRow.alloc h1 (.cells #[.int .i64 sx.id] 3)) (Far.refl (fun _ => False) _).drew (fun _ _ e => e))
        have NC6 : Hid (∀ j y, [Value.int .i64 sx.id][j]? = some y → ((w5.alloc (.cells #[.int .i64 sx.id] 3)).drew).cell? ⟨w5.heap.size, 0 + j, none⟩ = some y) := Lib.hid (new_cells w5 3 [.int .i64 sx.id])
        have HV9 := Lib.hid hv9
        have L6F : Hid (∀ w6, ((w5.alloc (.cells #[.int .i64 sx.id] 3)).drew).grownBy w6 (Value.slice A9 tk.ended.length c9).ownBlock → Far (fun j => ve'.ownBlock = some j) w5 w6 ∧ w6.cell? ⟨m, 23, none⟩ = some (.slice A9 tk.ended.length c9) ∧ w6.frozen? ⟨m, 23, none⟩ = false ∧ Blk w6 m 92 (tC tk vs' ve')) := Lib.hid (fun w6 gr => by
          have F : Far (fun j => ve'.ownBlock = some j) w5 w6 := by
            rw [HV9.out]
            exact (((Far.refl _ w5).alloc _).drew).grown gr (fun j _ hj => hj)
          have b := L5.out.1.blk.far F L5.out.1.em
          refine ⟨F, ?_, b.frozen _, b⟩
          rw [b.cell, ← HV9.out]
          rfl)
        have a23 : (w5.alloc (.cells #[.int .i64 sx.id] 3)).cell? ⟨m, 23, none⟩ = some (.slice A9 tk.ended.length c9) := by rw [Blk.cell (Blk.alloc L5.out.1.blk _), ← hv9]; rfl
        clear hv9 hfew hfk
        go_region_law (refine step_append_own (k := 1) (T := 3) (S := 60) elemInts1 info1 rfl (by decide) (by decide) rfl (.tmp 34) (.tmp 40) rfl rfl B _ _ (ints tk.ended) w5.heap.size 0 1 1 [.int .i64 sx.id] rfl rfl OWN6.out rfl NC6.out (by simp [Value.oneCell']) N3.out N4.out ?_; intro v6 w6 own6 gr6 ho6; (obtain ⟨A6, c6, rfl, _, _⟩ := Vs.of_own own6 own6.1); (have O6 := Lib.hid own6); (have H6 := Lib.hid ho6); (have L6 := Lib.hid (L6F.out w6 gr6)); (have e6 := L6.out.2.1); (have g6 := L6.out.2.2.1); (clear own6 gr6 ho6))
        all_goals
          have b7 : Blk (w6.setCell ⟨m, 23, none⟩ (.slice A6 (tk.ended.length + 1) c6)) m 92 (tC { tk with ended := tk.ended ++ [tk.id i] } vs' (.slice A6 (tk.ended.length + 1) c6)) := L6.out.2.2.2.set 23 (.slice A6 (tk.ended.length + 1) c6)
          obtain ⟨W7, hW7⟩ : ∃ W, W = w6.setCell ⟨m, 23, none⟩ (.slice A6 (tk.ended.length + 1) c6) := ⟨_, rfl⟩
          have HW7 := Lib.hid hW7
          rw [← hW7] at b7 ⊢
          have k0 := b7.cell (2 + i * 5)
          have k1 := b7.cell (2 + i * 5 + 1)
          have k2 := b7.cell (2 + i * 5 + 2)
          have k3 := b7.cell (2 + i * 5 + 3)
          have k4 := b7.cell (2 + i * 5 + 4)
          rw [tC_id _ _ _ i HI4.out] at k0
          rw [tC_block _ _ _ i HI4.out] at k1
          rw [tC_dead _ _ _ i HI4.out] at k2
          rw [tC_last _ _ _ i HI4.out] at k3
          rw [tC_kept _ _ _ i HI4.out] at k4
          have r0 := b7.frozen (2 + i * 5)
          have r1 := b7.frozen (2 + i * 5 + 1)
          have r2 := b7.frozen (2 + i * 5 + 2)
          have r3 := b7.frozen (2 + i * 5 + 3)
          have r4 := b7.frozen (2 + i * 5 + 4)
          clear b7 hW7 e23 a23 eid e6 g6 c0 d0 d1 d2 d3
          go_wp2_with fail
          refine ⟨⟨k + 1, _, upd vs' i (.slice none 0 0), .slice A6 (tk.ended.length + 1) c6, rfl, by go_num, by omega, Lib.hid ?_⟩, by simp [intOf]; omega⟩
          rw [HW7.out]
          exact xp_step HX.out HTK.out HRR.out HII.out HI4.out HSX.out HSL.out hid0 (by omega) L5.out.1 L5.out.2 O5.out (H5.out.imp (fun h => h) (fun h => ⟨_, h, by simp⟩)) O6.out L6.out.1 (H6.out.imp (fun h => by rw [HV9.out]; exact h) (fun h b hb => by rw [h] at hb; cases hb; simp)) N5.out rfl
    · obtain rfl : k = t.used.length := by omega
      have X := HX.out
      have hfew := X.few
      have hX : t.used.take t.used.length = t.used := List.take_length
      obtain ⟨u, hu⟩ : ∃ z, z = t.endAll clock t.used := ⟨_, rfl⟩
      have hL := X.lt
      have hrow := X.row
      rw [hX, ← hu] at hL hfew
      rw [hX] at hrow
      have hex : t.expire clock = ({ u with ended := lastN 8 u.ended }, ((t.used.filter (fun i => decide ((t.sl i).s.dead ≤ clock))).map (fun i => (t.sl i).s))) := by rw [hu]; rfl
      have HEX := Lib.hid hex
      have HLU := Lib.hid hL
      have HROW := Lib.hid hrow
      obtain ⟨A9, c9, hv9, _, _⟩ := Vs.of_own hL.ended (by simp [ints])
      obtain ⟨n, hn⟩ : ∃ z, z = u.ended.length := ⟨_, rfl⟩
      rw [← hn] at hv9 hfew
      have e23 : wr.cell? ⟨m, 23, none⟩ = some (.slice A9 n c9) := by rw [hL.blk.cell, ← hv9]; rfl
      have g23 := hL.blk.frozen 23
      have hvb : ∀ b, va.ownBlock = some b → ¬ OwnL m vs ve b := fun b hb e => by
        have h1 := (hrow.lt b hb).1
        have h2 := (HL.out.own b e).2
        have := B1.out.size
        omega
      have HVB := Lib.hid hvb
      have FAR : Hid (Far (OwnL m vs ve) w wr) := Lib.hid (((far_of_below B1.out).mono (S' := OwnL m vs ve) (fun _ _ e => e.elim)).trans X.far (fun _ _ e => e))
      have OWN : Hid (∀ j, OwnL m vs' ve' j → OwnL m vs ve j ∨ w.heap.size ≤ j) := Lib.hid (fun j hj => (X.own j hj).imp (fun h => h) (fun h => Nat.le_trans B1.out.size h))
      have HNN := Lib.hid hn
      have HV9 := Lib.hid hv9
      by_cases h9 : n ≤ 8
      · have q1 : ¬ (n : Int) - 8 > 0 := by omega
        have wk : IntKind.i64.wrap ((n : Int) - 8) = (n : Int) - 8 := IntWalk.i64_in _ (by omega)
        have LN : Hid (lastN 8 u.ended = u.ended) := Lib.hid (by unfold lastN; rw [← hn, show n - 8 = 0 by omega, List.drop_zero])
        clear X hX hL hrow hex hn hv9 hu hvb
        go_wp2_with fail
        try rw [Exit.noGoto_ret]
        go_ret
        refine ⟨_, rfl, ?_, ?_⟩
        · rw [HEX.out]
          exact ownsRow_base HROW.out B1.out.size
        · rw [HEX.out]
          refine ⟨vs', ve', ?_, FAR.out, OWN.out, HX.out.sep⟩
          show Lt B m { u with ended := lastN 8 u.ended } vs' ve' wr
          rw [LN.out]
          exact HLU.out
      · have q1 : ((n - 8 : Nat) : Int) > 0 := by omega
        have wk : IntKind.i64.wrap ((n : Int) - 8) = ((n - 8 : Nat) : Int) := by rw [show (n : Int) - 8 = ((n - 8 : Nat) : Int) by omega]; exact IntWalk.i64_in _ (by omega)
        have DL := Lib.hid (del_Ints B ve' n (n - 8) (ints u.ended) wr (by rw [HNN.out]; exact hL.ended) (by omega) (by omega) (by omega) (fun x hx => by unfold ints at hx; obtain ⟨y, _, rfl⟩ := List.mem_map.1 hx; rfl))
        rw [hv9] at DL
        have D2 : Hid (∀ (v' : Value) (w6 : World), w6.ownsRow B 3 1 v' (n - (n - 8)) ((ints u.ended).drop ((n - 8) * 1)) → v'.ownBlock = (Value.slice A9 n c9).ownBlock → Far (fun j => (Value.slice A9 n c9).ownBlock = some j) wr w6 → w6.cell? ⟨m, 23, none⟩ = some (.slice A9 n c9) ∧ w6.frozen? ⟨m, 23, none⟩ = false ∧ (Lt B m { u with ended := lastN 8 u.ended } vs' v' (w6.setCell ⟨m, 23, none⟩ v') ∧ Far (OwnL m vs' ve') wr (w6.setCell ⟨m, 23, none⟩ v') ∧ ∀ k, OwnL m vs' v' k → OwnL m vs' ve' k)) := Lib.hid (fun v' w6 own6 ho F => by
          rw [← HV9.out] at ho F
          have b := HLU.out.blk.far F HLU.out.em
          refine ⟨by rw [b.cell, ← HV9.out]; rfl, b.frozen _, HLU.out.cut v' (lastN 8 u.ended) (fun e he => List.mem_of_mem_drop he) ?_ w6 ?_ F ho⟩
          · unfold lastN
            rw [List.length_drop, ← HNN.out]
            omega
          · rw [show lastN 8 u.ended = u.ended.drop (n - 8) by rw [HNN.out]; rfl, ints_drop, List.length_drop, ← HNN.out]
            rw [Nat.mul_one] at own6
            exact own6)
        clear X hX hL hrow hex hn hv9 hu hvb
        go_wp2_with ((go_at_call 43; refine DL.out.mono ?_; rintro e w6 ⟨v6, rfl, own6, ho6, F6⟩; (have D3 := Lib.hid (D2.out v6 w6 own6 ho6 F6)); (have e6 := D3.out.1); (have g6 := D3.out.2.1); (obtain ⟨A6, c6, hv6, _, _⟩ := Vs.of_own own6 own6.1); (rw [hv6] at D3); (rw [hv6]); (clear own6 ho6 F6 hv6)))
        try rw [Exit.noGoto_ret]
        go_ret
        have D4 := D3.out.2.2
        refine ⟨_, rfl, ?_, ?_⟩
        · rw [HEX.out]
          exact own_far (ownsRow_base HROW.out B1.out.size) D4.2.1 HX.out.sep
        · rw [HEX.out]
          refine ⟨vs', _, D4.1, FAR.out.trans D4.2.1 (fun j hj e => (OWN.out j e).resolve_right (by omega)), fun j hj => OWN.out j (D4.2.2 j hj), fun b hb e => HX.out.sep b hb (D4.2.2 b e)⟩
theorem expire_any (h : Lt B m t vs ve w) (h8 : t.ended.length ≤ 50) (clock : Int) :
    Calls Try.prog 17 #[.pointer (some ⟨m, 0, none⟩), .int .i64 clock] w fun e w' => ∃ v, e = .returned v ∧ w'.ownsRow w.heap.size 29 4 v (t.expire clock).2.length (flatS (t.expire clock).2) ∧ Stp B m vs ve w (t.expire clock).1 w' ∧ ∀ b, v.ownBlock = some b → ¬ OwnL m vs ve b := by
  refine (expire_sep h h8 clock).mono ?_
  rintro e w' ⟨v, rfl, h1, vs', ve', h2, h3, h4, h5⟩
  exact ⟨v, rfl, h1, ⟨vs', ve', h2, h3, h4⟩, fun b hb e => by have := (h1.lt b hb).1; have := (h.own b e).2; omega⟩
end
end Go.Proofs.Ytjladlniilacjaa
