/-
  Package lease: New, All.
-/
import Derived.Test.YtjladlniilacjaaLeaOpen
namespace Go.Proofs.Ytjladlniilacjaa
open Go.RowKit Go.Proofs.Lea
set_option linter.unusedVariables false
set_option linter.unusedSimpArgs false
def nilS : Value := .slice none 0 0
theorem news_ok (most term : Int) : (news most term).Ok := by
  have hid : ∀ i, (news most term).id i = 0 := fun i => by
    rcases Nat.lt_or_ge i 4 with h | h
    · have : i = 0 ∨ i = 1 ∨ i = 2 ∨ i = 3 := by omega
      rcases this with rfl | rfl | rfl | rfl <;> rfl
    · exact id_out _ rfl i h
  refine ⟨rfl, ?_, ?_, Nat.zero_le _, fun i _ => by rw [hid]; exact ⟨Int.le_refl _, Int.le_refl _⟩, fun i j _ _ _ h => absurd (hid i) h, ?_, fun i hi _ => ?_, fun i hi => ?_, fun e he => by cases he⟩
  · show 1 ≤ min (max most 1) 4 ∧ min (max most 1) 4 ≤ 4; omega
  · show 1 ≤ min (max term 1) 1000 ∧ min (max term 1) 1000 ≤ 1000; omega
  · have : (news most term).raw = [] := by
      unfold Tbl.raw Tbl.rawN
      rw [List.filter_eq_nil_iff]
      intro i _
      simp [hid]
    rw [this]
    exact Nat.zero_le _
  all_goals
    have : i = 0 ∨ i = 1 ∨ i = 2 ∨ i = 3 := by omega
    rcases this with rfl | rfl | rfl | rfl <;> first | rfl | exact Nat.zero_le _
theorem nilOwn (b : Nat) : (Value.slice none 0 0).ownBlock ≠ some b := fun h => by cases h
theorem new_any (most term : Int) (w : World) :
    Calls Try.prog 12 #[.int .i64 most, .int .i64 term] w fun e w' => e = .returned (.pointer (some ⟨w.heap.size, 0, none⟩)) ∧ Lt w.heap.size w.heap.size (news most term) (fun _ => .slice none 0 0) (.slice none 0 0) w' ∧ Bl w.heap.size w w' := by
  obtain ⟨M, hM⟩ : ∃ z, z = min (max most 1) 4 := ⟨_, rfl⟩
  obtain ⟨T, hT⟩ : ∃ z, z = min (max term 1) 1000 := ⟨_, rfl⟩
  have HM := Lib.hid hM
  have HT := Lib.hid hT
  clear hM hT
  go_enter Try.func12, Try.ntmps12
  go_wp2_with fail
  rw [← HM.out, ← HT.out]
  go_ret
  refine ⟨rfl, ?_, (Bl.start w).alloc _⟩
  have k := Blk.new w 92 (tC (news most term) (fun _ => .slice none 0 0) (.slice none 0 0))
  have e : tC (news most term) (fun _ => .slice none 0 0) (.slice none 0 0) = #[.int .i64 M, .int .i64 T, .int .i64 0, .int .i64 0, .int .i64 0, .int .i64 0, .slice none 0 0, .int .i64 0, .int .i64 0, .int .i64 0, .int .i64 0, .slice none 0 0, .int .i64 0, .int .i64 0, .int .i64 0, .int .i64 0, .slice none 0 0, .int .i64 0, .int .i64 0, .int .i64 0, .int .i64 0, .slice none 0 0, .int .i64 0, .slice none 0 0] := by rw [HM.out, HT.out]; rfl
  refine { blk := by rw [e] at k ⊢; exact k, rows := fun i hi => ?_, ended := ownsRow_nil _ _ _ _, ok := news_ok most term, few := Nat.zero_le _, mB := Nat.le_refl _, vm := fun i _ => nilOwn _, em := nilOwn _, ev := fun i _ b _ => nilOwn _, vv := fun i j _ _ _ b _ => nilOwn _ }
  have : i = 0 ∨ i = 1 ∨ i = 2 ∨ i = 3 := by omega
  rcases this with rfl | rfl | rfl | rfl <;> exact ownsRow_nil _ _ _ _
theorem ownsRow_base {w : World} {B C n k : Nat} {T : TypeId} {v : Value} {xs : List Value} (h : w.ownsRow C T k v n xs) (hb : B ≤ C) : w.ownsRow B T k v n xs := by
  refine ⟨h.1, h.2.imp id ?_⟩
  rintro ⟨g, cap, cur, rfl, h2, h3⟩
  exact ⟨g, cap, cur, rfl, Nat.le_trans hb h2, h3⟩
/-- Sessions, cell by cell. -/
def flatS (l : List Ses) : List Value := l.flatMap (fun s => [.int .i64 s.id, .int .i64 s.block, .int .i64 s.dead, .int .i64 s.last])
theorem flatS_length (l : List Ses) : (flatS l).length = l.length * 4 := by
  unfold flatS
  induction l with
  | nil => rfl
  | cons a r ih => simp [List.flatMap_cons, ih]; omega
theorem flatS_append (a b : List Ses) : flatS (a ++ b) = flatS a ++ flatS b := by simp [flatS, List.flatMap_append]
theorem elemSes : Try.prog.underlying 30 = some (.slice 29) := by kernel_rfl
theorem infoSes : (Try.prog.info? 29).map (fun i => (i.zero, i.size, i.bytes)) = some (some (.agg #[.int .i64 0, .int .i64 0, .int .i64 0, .int .i64 0]), 4, 32) := by kernel_rfl
section
variable {B m : Nat} {t : Tbl} {vs : Nat → Value} {ve : Value} {w : World}
set_option maxRecDepth 100000 in
set_option maxHeartbeats 2000000 in
theorem all_any (h : Lt B m t vs ve w) :
    Calls Try.prog 15 #[.pointer (some ⟨m, 0, none⟩)] w fun e w' => ∃ v, e = .returned v ∧ w'.ownsRow w.heap.size 29 4 v t.all.length (flatS t.all) ∧ Below w.heap.size w w' := by
  have US := Lib.hid (used_any m t vs ve w h.blk)
  have HIT := Lib.hid (fun i hi W hb => h.hit i hi W hb)
  have UL := used_le t
  clear h
  go_enter Try.func15, Try.ntmps15
  go_wp2_with (go_at_call 42; refine US.out.mono ?_; rintro e w1 ⟨v, rfl, own, hb⟩; obtain ⟨A, c, rfl, _, hS⟩ := Vs.of_own own (by simp); have SS := Lib.hid hS; have B1 := Lib.hid ((Bl.start w).call hb); clear own hb hS)
  go_loopw [3, 5, 9] (fun vo _ vi wr => ∃ k : Nat, vi = .int .i64 (k : Int) ∧ k ≤ t.used.length ∧ Hid (wr.ownsRow w1.heap.size 29 4 vo ((t.used.take k).map (fun i => (t.sl i).s)).length (flatS ((t.used.take k).map (fun i => (t.sl i).s)))) ∧ Hid (Bl w1.heap.size w1 wr)) (fun _ _ vi _ => t.used.length - (intOf vi).toNat)
  case atStart => exact ⟨0, rfl, Nat.zero_le _, Lib.hid (ownsRow_nil _ _ _ _), Lib.hid (Bl.start w1)⟩
  case round =>
    obtain ⟨k, rfl, hk, HO, HB⟩ := hrel
    by_cases hlt : k < t.used.length
    · obtain ⟨i, hi⟩ : ∃ i, t.used[k]? = some i := ⟨_, List.getElem?_eq_getElem hlt⟩
      obtain ⟨b, o, rfl, _, hc⟩ := (SS.out.below HB.out.1).at_ k (slotP m i) (by rw [List.getElem?_map, hi]; rfl)
      have c0 := hc k (slotP m i) (by rw [List.getElem?_map, hi]; rfl)
      have hi4 := ((used_mem t i).1 (List.mem_of_getElem? hi)).1
      have HW := HIT.out i hi4 wr ((B1.out.call HB.out.1).1)
      have d0 := HW.c0
      have d1 := HW.c1
      have d2 := HW.c2
      have d3 := HW.c3
      have i1 : (k : Int) < (t.used.length : Int) := by omega
      have wk : IntKind.i64.wrap ((k : Int) + 1) = (k : Int) + 1 := IntWalk.i64_in _ (by omega)
      have HS : Hid ((t.used.take (k + 1)).map (fun i => (t.sl i).s) = (t.used.take k).map (fun i => (t.sl i).s) ++ [(t.sl i).s]) := Lib.hid (by rw [List.take_add_one, hi, List.map_append]; rfl)
      have hkl : ((t.used.take k).map (fun i => (t.sl i).s)).length = k := by rw [List.length_map, List.length_take]; omega
      obtain ⟨s, hs⟩ : ∃ s, s = (t.sl i).s := ⟨_, rfl⟩
      have hid : t.id i = s.id := by rw [hs]; rfl
      rw [← hs] at HS d0 d1 d2 d3
      have N1 : Hid (((t.used.take k).map (fun i => (t.sl i).s)).length + 1 ≤ 1000000) := Lib.hid (by omega)
      have N2 : Hid (w1.heap.size ≤ (wr.alloc (.cells #[.int .i64 s.id, .int .i64 s.block, .int .i64 s.dead, .int .i64 s.last] 29)).heap.size) := Lib.hid (by have := HB.out.2; simp; omega)
      have BA : Hid (Bl w1.heap.size w1 (wr.alloc (.cells #[.int .i64 s.id, .int .i64 s.block, .int .i64 s.dead, .int .i64 s.last] 29))) := Lib.hid (HB.out.alloc _)
      have NC := Lib.hid (new_cells wr 29 [.int .i64 s.id, .int .i64 s.block, .int .i64 s.dead, .int .i64 s.last])
      unfold slotP at c0
      clear hi hc hi4 HW hs hid hkl
      go_wp2_with (at_builtin; (refine wpList_append_own (k := 4) (T := 29) (S := 30) elemSes infoSes rfl (by decide) (by decide) rfl _ _ rfl rfl w1.heap.size _ _ (flatS ((t.used.take k).map (fun i => (t.sl i).s))) wr.heap.size 0 1 1 [.int .i64 s.id, .int .i64 s.block, .int .i64 s.dead, .int .i64 s.last] rfl rfl (World.ownsRow.alloc HO.out _) rfl NC.out (by simp [Value.oneCell']) N1.out N2.out ?_; intro v5 w5 own5 gr5 _; have b5 := BA.out.grownRow (World.ownsRow.alloc HO.out _) (Nat.le_refl _) gr5; have B5 := Lib.hid b5; have O5 := Lib.hid own5; clear own5 gr5 b5))
      refine ⟨⟨k + 1, by go_num, by omega, Lib.hid ?_, B5⟩, by simp [intOf]; omega⟩
      rw [HS.out, flatS_append, List.length_append]
      exact O5.out
    · obtain rfl : k = t.used.length := by omega
      go_wp2_with fail
      go_ret
      have := HO.out
      rw [List.take_length] at this
      refine ⟨_, rfl, ?_, (B1.out.call HB.out.1).1⟩
      exact ownsRow_base this B1.out.2
end
end Go.Proofs.Ytjladlniilacjaa
