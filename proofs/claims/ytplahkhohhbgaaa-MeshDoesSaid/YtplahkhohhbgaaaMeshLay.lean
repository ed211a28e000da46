/-
  Package mesh: lay.
-/
import Derived.Test.YtplahkhohhbgaaaMeshCut
namespace Go.Proofs.Ytplahkhohhbgaaa
open Go.RowKit
set_option linter.unusedVariables false
set_option linter.unusedSimpArgs false
/-- The frames, one more at a place. -/
def laid (xs : List ByteArray) (n : Nat) (s : ByteArray) : List ByteArray := xs.take n ++ s :: xs.drop n
theorem laid_length (xs : List ByteArray) (n : Nat) (s : ByteArray) (hn : n ≤ xs.length) : (laid xs n s).length = xs.length + 1 := by simp [laid]; omega
theorem lay_row (xs : List ByteArray) (n : Nat) (s e : ByteArray) (hn : n ≤ xs.length) (cur : List Value) (hc : cur.take (xs.length + 1) = (xs ++ [e]).map Value.string) (hs : xs.length + 1 ≤ cur.length) :
    ((splice cur (n + 1) ((xs.drop n).map Value.string)).set n (.string s)).take (xs.length + 1) = (laid xs n s).map Value.string ∧ (splice cur (n + 1) ((xs.drop n).map Value.string)).length = cur.length := by
  refine ⟨?_, length_splice _ _ _ (by simp; omega)⟩
  have h0 : cur.take n = (xs.take n).map Value.string := by
    have := congrArg (List.take n) hc
    rw [List.take_take, Nat.min_eq_left (by omega)] at this
    rw [this, ← List.map_take, List.take_append_of_le_length hn]
  have h1 : ∃ z, cur.take (n + 1) = (xs.take n).map Value.string ++ [z] := ⟨cur[n]'(by omega), by rw [List.take_succ_eq_append_getElem (by omega), h0]⟩
  obtain ⟨z, h1⟩ := h1
  have hA : ((xs.take n).map Value.string).length = n := by simp; omega
  unfold splice laid
  rw [h1, List.append_assoc, List.set_append_right _ _ (by omega), hA, Nat.sub_self]
  simp only [List.singleton_append, List.set_cons_zero]
  rw [List.take_append, hA]
  rw [List.take_of_length_le (by omega)]
  have hD : ((xs.drop n).map Value.string).length = xs.length - n := by rw [List.length_map, List.length_drop]
  rw [show xs.length + 1 - n = (xs.length - n) + 1 by omega, List.take_succ_cons, List.take_append_of_le_length (Nat.le_of_eq hD.symm), List.take_of_length_le (Nat.le_of_eq hD)]
  simp
set_option maxRecDepth 100000 in
set_option maxHeartbeats 2000000 in
theorem mlay_any (B g : Nat) (r : Int) (v : Value) (xs : List ByteArray) (n : Nat) (s : ByteArray) (w : World) (hM : Mh B g r v xs w) (hn : n ≤ xs.length) (hB : B ≤ w.heap.size) (hl : xs.length ≤ 1000) :
    Calls Try.prog 61 #[.pointer (some ⟨g, 0, none⟩), .int .i64 (n : Int), .string s] w fun e w' => e = .returned (.tuple #[]) ∧ ∃ v', Mh B g r v' (laid xs n s) w' ∧ Far (Own g v) w w' ∧ Fresh w v v' := by
  obtain ⟨A, c, rfl, _, _, _⟩ := hM.shape
  have c0 : w.cell? ⟨g, 0, none⟩ = some (.int .i64 r) := by rw [hM.1.cell]; rfl
  have c1 : w.cell? ⟨g, 1, none⟩ = some (.slice A xs.length c) := by rw [hM.1.cell]; rfl
  have HM := Lib.hid hM
  have hlt := hM.1.lt
  clear hM
  have e1 : IntKind.i64.wrap ((n : Int) + 1) = (n : Int) + 1 := IntWalk.i64_in _ (by omega)
  go_enter Try.func61, Try.ntmps61
  go_wp2_with (at_builtin; refine wpList_append_strs rfl _ _ rfl rfl B (.slice A xs.length c) _ xs [⟨#[]⟩] rfl rfl (World.ownsRow.alloc HM.out.2.1 _) (one_lit _ _) (by simp; omega) (by simp; omega) ?_; intro v5 w5 own5 gr5 fr5; have bk := (HM.out.1.alloc (.cells #[.string ⟨#[]⟩] 9)).grown gr5 HM.out.2.2; obtain ⟨k, cap, cur, hv5, hk5⟩ := own_some own5 (by simp); rw [List.length_append, List.length_singleton] at hv5; have FR := Lib.hid fr5; have HK := Lib.hid hk5; have GR := Lib.hid gr5; subst hv5; have c5 := bk.cell 1; have f5 := bk.frozen 1; simp only [List.getElem?_toArray, List.getElem?_cons_succ, List.getElem?_cons_zero] at c5; have BK := Lib.hid bk; clear bk own5 gr5 fr5 hk5)
  obtain ⟨m, hm⟩ : ∃ m, m = xs.length := ⟨_, rfl⟩
  rw [← hm] at c5 hl hn
  have hk := HK.out
  simp only [List.length_append, List.length_singleton] at hk
  rw [← hm] at hk
  obtain ⟨hbk, hkc, hle, hcap, hsz, hcur⟩ := hk
  have hkg : k ≠ g := by
    intro e
    have h1 := BK.out
    unfold Blk at h1
    rw [← e, hkc] at h1
    simp at h1
  have hfr : k = w.heap.size + 1 ∨ some k = (Value.slice A xs.length c).ownBlock := by
    have h1 := FR.out
    simp at h1
    rcases h1.symm with h | h
    · have h2 : some k = some (w.heap.size + 1) := h
      exact .inl (Option.some.inj h2)
    · exact .inr h
  have hb1 : Blk (w5.setCell ⟨g, 1, none⟩ (.slice (some ⟨k, 0, none⟩) (m + 1) cap)) g 89 #[.int .i64 r, .slice (some ⟨k, 0, none⟩) (m + 1) cap] := by
    have := BK.out.set 1 (.slice (some ⟨k, 0, none⟩) (m + 1) cap)
    simpa using this
  have hb2 : (w5.setCell ⟨g, 1, none⟩ (.slice (some ⟨k, 0, none⟩) (m + 1) cap)).heap[k]? = some (.cells cur.toArray 9) := Blk.other (w := w5) (g := k) (t := 9) (cs := cur.toArray) hkc (p := ⟨g, 1, none⟩) hkg _
  have F1 : Far (Own g (.slice A xs.length c)) w (w5.setCell ⟨g, 1, none⟩ (.slice (some ⟨k, 0, none⟩) (m + 1) cap)) := (((Far.refl _ w).alloc _).grown GR.out (fun i _ h => .inr h)).setCell (p := ⟨g, 1, none⟩) (fun _ => .inl rfl) _
  rw [← hm]
  generalize w5.setCell ⟨g, 1, none⟩ (.slice (some ⟨k, 0, none⟩) (m + 1) cap) = W1 at *
  have q0 := hcur
  rw [hm] at q0
  obtain ⟨q1, q2⟩ := lay_row xs n s ⟨#[]⟩ (by omega) cur q0 (by omega)
  obtain ⟨cs, hcs⟩ : ∃ cs, cs = (xs.drop n).map Value.string := ⟨_, rfl⟩
  rw [← hcs] at q1 q2
  rw [← hm] at q1
  rw [hsz] at q2
  have q3 : ∀ j v, cs[j]? = some v → cur[n + j]? = some v := by
    intro j v hv
    rw [hcs] at hv
    have hj : j < m - n := by have := (List.getElem?_eq_some_iff.1 hv).1; rw [List.length_map, List.length_drop] at this; omega
    have h2 : (cur.take (m + 1))[n + j]? = some v := by
      rw [hcur, List.map_append, List.getElem?_append_left (by rw [List.length_map]; omega), List.getElem?_map]
      rw [List.getElem?_map, List.getElem?_drop] at hv
      exact hv
    rw [List.getElem?_take_of_lt (by omega)] at h2
    exact h2
  have q4 : cs.length = m - n := by rw [hcs, List.length_map, List.length_drop, hm]
  have q5 : ∀ v ∈ cs, v.oneCell' = true := by
    intro v hv
    rw [hcs] at hv
    obtain ⟨x, _, rfl⟩ := List.mem_map.1 hv
    rfl
  obtain ⟨A1, hA1⟩ : ∃ A', A' = (if cap = n + 1 then (some ⟨k, 0, none⟩ : Option Addr) else some ⟨k, 0 + (n + 1), none⟩) := ⟨_, rfl⟩
  have s1 : ∀ W : World, (Instr.slice 44 (.slice (some ⟨k, 0, none⟩) (m + 1) cap) (some (.int .i64 ((n : Int) + 1))) none none).run Try.prog W = .ok (.slice A1 (m - n) (cap - (n + 1))) W := fun W => by
    have := slice_low k 0 (m + 1) cap (n + 1) (by omega) W
    rw [← hA1, Nat.add_sub_add_right] at this
    rw [← this]
    rfl
  have s2 : ∀ W : World, (Instr.slice 44 (.slice (some ⟨k, 0, none⟩) (m + 1) cap) (some (.int .i64 (n : Int))) none none).run Try.prog W = .ok (.slice (some ⟨k, n, none⟩) (m + 1 - n) (cap - n)) W := fun W => by
    rw [slice_low k 0 (m + 1) cap n (by omega) W, if_neg (by omega), Nat.zero_add]
  have d0 : W1.cell? ⟨g, 0, none⟩ = some (.int .i64 r) := by rw [hb1.cell]; rfl
  have d1 : W1.cell? ⟨g, 1, none⟩ = some (.slice (some ⟨k, 0, none⟩) (m + 1) cap) := by rw [hb1.cell]; rfl
  have HB1 := Lib.hid hb1
  have HK1 := Lib.hid hb2
  have H1 := Lib.hid q1
  have H2 := Lib.hid q2
  have H3 := Lib.hid q3
  have H4 := Lib.hid q4
  have H5 := Lib.hid q5
  have HSZ := Lib.hid hsz
  have HA1 := Lib.hid hA1
  have HFR := Lib.hid hfr
  have HF1 := Lib.hid F1
  have HMM := Lib.hid hm
  have HL := Lib.hid hl
  have HCAP := Lib.hid hcap
  have HLE := Lib.hid hle
  have HBK := Lib.hid hbk
  clear hb1 hb2 q0 q1 q2 q3 q4 q5 hsz hA1 hfr F1 hcs hcur hkc HK FR GR BK c0 c1 c5 f5 hm hl hcap hle hbk
  go_still_tail 13, (by kernel_rfl)
  refine wpList_copy_in rfl (.tmp 21) (.tmp 27) rfl A1 (some ⟨k, n, none⟩) (m - n) (cap - (n + 1)) (m + 1 - n) (cap - n) rfl rfl k (n + 1) cur cs (by show W1.heap[k]? = _; rw [HK1.out]) (by rw [H4.out]; exact (Nat.min_eq_right (by omega)).symm) (fun h => ⟨?_, ⟨k, n, none⟩, rfl, ?_⟩) (by rw [H4.out, HSZ.out]; have := HLE.out; omega) H5.out ?_
  · have h4 := H4.out
    have := HLE.out
    rw [HA1.out, if_neg (by omega), Nat.zero_add]
  · intro j v hv
    rw [Addr.add_mid]
    have := H3.out j v hv
    rw [← this]
    exact cell_list (W := W1) HK1.out (n + j)
  · intro W2 hk2 F2
    have hgk : g ≠ k := fun e => hkg e.symm
    have hb3 : Blk W2 g 89 #[.int .i64 r, .slice (some ⟨k, 0, none⟩) (m + 1) cap] := (HB1.out.drewN 1).far F2 hgk
    have e1 : W2.cell? ⟨g, 1, none⟩ = some (.slice (some ⟨k, 0, none⟩) (m + 1) cap) := by rw [hb3.cell]; rfl
    obtain ⟨L, hL⟩ : ∃ L, L = splice cur (n + 1) cs := ⟨_, rfl⟩
    rw [← hL] at hk2
    have r1 := H1.out
    have r2 := H2.out
    rw [← hL] at r1 r2
    have hle := HLE.out
    obtain ⟨u, hu⟩ : ∃ u, L[n]? = some u := ⟨L[n]'(by omega), List.getElem?_eq_getElem (by omega)⟩
    have e2 : W2.cell? ⟨k, n, none⟩ = some u := by rw [cell_list hk2.out, hu]
    have e3 : W2.frozen? ⟨k, n, none⟩ = false := by simp [World.frozen?, hk2.out]
    have HB3 := Lib.hid hb3
    have HLL := Lib.hid hL
    have HU := Lib.hid hu
    have R1 := Lib.hid r1
    have R2 := Lib.hid r2
    have HF2 := Lib.hid F2
    clear hb3 hL hu r1 r2 F2 d0 d1 hle
    have i1 : (n : Int) < ((m + 1 : Nat) : Int) := by omega
    have i2 : (n : Int) < (m : Int) + 1 := by omega
    have hcs : (goInt cs.length) = .int .i64 ((m - n : Nat) : Int) := by rw [H4.out]; rfl
    rw [hcs]
    clear hcs
    go_wp2_with fail
    go_end0
    have hlen : (laid xs n s).length = m + 1 := by rw [laid_length _ _ _ (by rw [← HMM.out]; exact hn), ← HMM.out]
    have hbk2 : Blk (W2.setCell ⟨k, n, none⟩ (.string s)) k 9 (L.set n (.string s)).toArray := by
      have h1 : Blk W2 k 9 L.toArray := hk2.out
      have h2 := h1.set n (.string s)
      simpa using h2
    have hbg2 : Blk (W2.setCell ⟨k, n, none⟩ (.string s)) g 89 #[.int .i64 r, .slice (some ⟨k, 0, none⟩) (m + 1) cap] := HB3.out.other (p := ⟨k, n, none⟩) hgk (.string s)
    have hkw : k < w.heap.size → Own g (.slice A xs.length c) k := by
      intro h
      rcases HFR.out with h1 | h1
      · omega
      · exact .inr h1.symm
    refine ⟨rfl, _, ⟨hbg2, ?_, fun e => hkg (by cases e; rfl)⟩, ?_, ?_⟩
    · rw [hlen]
      refine ⟨by rw [List.length_map, hlen, Nat.mul_one], .inr ⟨k, cap, _, rfl, HBK.out, hbk2, HLE.out, HCAP.out, by simp [R2.out], ?_⟩⟩
      rw [Nat.mul_one, List.toList_toArray]
      exact R1.out
    · have F3 : Far (Own g (Value.slice A xs.length c)) w W2 := (HF1.out.drewN 1).trans HF2.out (fun i hi h => by subst h; exact hkw hi)
      exact F3.setCell (p := ⟨k, n, none⟩) hkw _
    · rcases HFR.out with h1 | h1
      · exact .inr (fun i hi => by
          have h2 : some k = some i := hi
          have := Option.some.inj h2
          omega)
      · exact .inl h1
end Go.Proofs.Ytplahkhohhbgaaa
