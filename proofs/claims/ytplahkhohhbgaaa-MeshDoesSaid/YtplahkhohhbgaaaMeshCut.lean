/-
  Package mesh: cut.
-/
import Derived.Test.YtplahkhohhbgaaaMesh
namespace Go.Proofs.Ytplahkhohhbgaaa
open Go.RowKit
set_option linter.unusedVariables false
set_option linter.unusedSimpArgs false
theorem strInfo1 : (Try.prog.info? 9).map (·.size) = some 1 := by kernel_rfl
/-- copy within a row of strings: only that row turns. -/
theorem wpList_copy_in {W : World} {ops : Array Oper} {rest : List Oper} {o : Oper} {a : Act} {Q : Exit → Act → World → Prop} (hgd : o.guard = none) (d s : Operand)
    (ho : o.op = .call { callee := .builtin .copy, args := #[d, s], argTypes := #[44, 44] }) (dp sp : Option Addr) (dLen dCap sLen sCap : Nat) (hd : a.eval d = .slice dp dLen dCap) (hs : a.eval s = .slice sp sLen sCap)
    (k off : Nat) (cur cs : List Value) (hg : W.heap[k]? = some (.cells cur.toArray 9)) (hn : cs.length = Nat.min sLen dLen)
    (hpos : 0 < cs.length → dp = some ⟨k, off, none⟩ ∧ ∃ ad, sp = some ad ∧ ∀ j v, cs[j]? = some v → W.cell? (ad.add j) = some v) (hfit : off + cs.length ≤ cur.length) (h1 : ∀ v ∈ cs, v.oneCell' = true)
    (h : ∀ w', Hid (w'.heap[k]? = some (.cells (splice cur off cs).toArray 9)) → Far (fun i => i = k) W w' → wpList Try.prog ops Q rest (a.put o.dst (goInt cs.length)) w') : wpList Try.prog ops Q (o :: rest) a W := by
  rcases Nat.eq_zero_or_pos cs.length with h0 | h0
  · obtain rfl := List.eq_nil_of_length_eq_zero h0
    refine wpList_copy_nothing hgd d s 44 44 ho 9 Try.underlying44 strInfo1 dp sp dLen dCap sLen sCap hd hs (by simpa using hn.symm) ?_
    exact h W (show _ = _ by simpa [splice] using hg) (Far.refl _ _)
  · obtain ⟨rfl, ad, rfl, hsrc⟩ := hpos h0
    refine wpList_copy_own hgd d s 44 44 ho 9 Try.underlying44 strInfo1 k off dLen dCap ad sLen sCap hd hs cur.toArray 9 hg cs hn hsrc (by simpa using hfit) h1 ?_
    exact h _ (show _ = _ by simpa [splice] using setRow_heap W k _ _ 9 _ hg) (Far.setRow (S := fun i => i = k) (Far.refl _ W) (fun _ => rfl) _)
/-- The row behind a cut. -/
theorem cut_row (xs : List ByteArray) (n : Nat) (hn : n < xs.length) (cur : List Value) (hc : cur.take xs.length = xs.map Value.string) (hs : xs.length ≤ cur.length) :
    (splice cur n ((xs.drop (n + 1)).map Value.string)).take (xs.length - 1) = (xs.eraseIdx n).map Value.string ∧ (splice cur n ((xs.drop (n + 1)).map Value.string)).length = cur.length := by
  refine ⟨?_, length_splice _ _ _ (by simp; omega)⟩
  have h1 : cur.take n = (xs.take n).map Value.string := by
    have := congrArg (List.take n) hc
    rw [List.take_take, Nat.min_eq_left (by omega)] at this
    rw [this, List.map_take]
  unfold splice
  rw [h1, ← List.append_assoc, ← List.map_append, List.eraseIdx_eq_take_drop_succ]
  rw [List.take_append_of_le_length (by simp; omega)]
  exact List.take_of_length_le (by simp; omega)
theorem cell_list {W : World} {k : Nat} {l : List Value} (h : W.heap[k]? = some (.cells l.toArray 9)) (j : Nat) : W.cell? ⟨k, j, none⟩ = l[j]? := by
  simp [World.cell?, h]
set_option maxRecDepth 100000 in
set_option maxHeartbeats 1000000 in
theorem mcut_any (B g : Nat) (r : Int) (v : Value) (xs : List ByteArray) (n : Nat) (w : World) (hM : Mh B g r v xs w) (hn : n < xs.length) (hl : xs.length ≤ 1000) :
    Calls Try.prog 60 #[.pointer (some ⟨g, 0, none⟩), .int .i64 (n : Int)] w fun e w' => e = .returned (.tuple #[]) ∧ ∃ v', Mh B g r v' (xs.eraseIdx n) w' ∧ Far (Own g v) w w' ∧ v'.ownBlock = v.ownBlock := by
  obtain ⟨hb, ⟨hx, ho⟩, hne⟩ := hM
  rcases ho with ⟨rfl, h0⟩ | ⟨k, cap, cur, rfl, hbk, hg, hle, hcap, hs, ht⟩
  · omega
  have c0 : w.cell? ⟨g, 0, none⟩ = some (.int .i64 r) := by rw [hb.cell]; rfl
  have c1 : w.cell? ⟨g, 1, none⟩ = some (.slice (some ⟨k, 0, none⟩) xs.length cap) := by rw [hb.cell]; rfl
  have f1 : w.frozen? ⟨g, 1, none⟩ = false := hb.frozen 1
  have hkg : k ≠ g := fun e => hne (by rw [e]; rfl)
  obtain ⟨m, hm⟩ : ∃ m, m = xs.length := ⟨_, rfl⟩
  have i1 : (n : Int) < (m : Int) := by omega
  rw [← hm] at c1 hle hl
  have hn' : n < m := by omega
  have HB := Lib.hid hb
  have HG := Lib.hid hg
  have HT := Lib.hid ht
  have HS := Lib.hid hs
  have HMM := Lib.hid hm
  have HC := Lib.hid hcap
  clear hb hg ht hs hm hx hne hcap hn
  have e1 : IntKind.i64.wrap ((n : Int) + 1) = (n : Int) + 1 := IntWalk.i64_in _ (by omega)
  have e2 : IntKind.i64.wrap ((m : Int) - 1) = ((m - 1 : Nat) : Int) := by rw [IntWalk.i64_in _ (by omega)]; omega
  have s1 : ∀ W : World, (Instr.slice 44 (.slice (some ⟨k, 0, none⟩) m cap) (some (.int .i64 (n : Int))) none none).run Try.prog W = .ok (.slice (some ⟨k, n, none⟩) (m - n) (cap - n)) W := fun W => by
    rw [slice_low k 0 m cap n (by omega) W, if_neg (by omega), Nat.zero_add]
  obtain ⟨A', hA'⟩ : ∃ A', A' = (if cap = n + 1 then (some ⟨k, 0, none⟩ : Option Addr) else some ⟨k, 0 + (n + 1), none⟩) := ⟨_, rfl⟩
  have s2 : ∀ W : World, (Instr.slice 44 (.slice (some ⟨k, 0, none⟩) m cap) (some (.int .i64 ((n : Int) + 1))) none none).run Try.prog W = .ok (.slice A' (m - (n + 1)) (cap - (n + 1))) W := fun W => by
    have := slice_low k 0 m cap (n + 1) (by omega) W
    rw [← hA'] at this
    rw [← this]
    rfl
  have s3 : ∀ W : World, (Instr.slice 44 (.slice (some ⟨k, 0, none⟩) m cap) none (some (.int .i64 ((m - 1 : Nat) : Int))) none).run Try.prog W = .ok (.slice (some ⟨k, 0, none⟩) (m - 1) cap) W := fun W => slice_high k 0 m cap (m - 1) (by omega) (by omega) W
  have hcur : cur.toList.take m = xs.map Value.string := by have := HT.out; rw [Nat.mul_one, ← HMM.out] at this; exact this
  have hsz : cur.toList.length = cap := by have := HS.out; simpa using this
  obtain ⟨q1, q2⟩ := cut_row xs n (by rw [← HMM.out]; exact hn') cur.toList (by rw [← HMM.out]; exact hcur) (by rw [hsz, ← HMM.out]; exact hle)
  rw [← HMM.out] at q1
  have q3 : ∀ j v, ((xs.drop (n + 1)).map Value.string)[j]? = some v → w.cell? ⟨k, n + 1 + j, none⟩ = some v := by
    intro j v hv
    have hj : n + 1 + j < m := by have := (List.getElem?_eq_some_iff.1 hv).1; simp at this; have := HMM.out; omega
    have h2 : (cur.toList.take m)[n + 1 + j]? = some v := by
      rw [hcur, List.getElem?_map]
      rw [List.getElem?_map, List.getElem?_drop] at hv
      exact hv
    rw [List.getElem?_take_of_lt hj] at h2
    simpa [World.cell?, HG.out] using h2
  have q4 : ((xs.drop (n + 1)).map Value.string).length = m - (n + 1) := by rw [List.length_map, List.length_drop, ← HMM.out]
  have q5 : ∀ v ∈ (xs.drop (n + 1)).map Value.string, v.oneCell' = true := by
    intro v hv
    obtain ⟨x, _, rfl⟩ := List.mem_map.1 hv
    rfl
  obtain ⟨cs, hcs⟩ : ∃ cs, cs = (xs.drop (n + 1)).map Value.string := ⟨_, rfl⟩
  rw [← hcs] at q1 q2 q3 q4 q5
  have Q1 := Lib.hid q1
  have Q2 := Lib.hid q2
  have Q3 := Lib.hid q3
  have Q4 := Lib.hid q4
  have Q5 := Lib.hid q5
  have HA' := Lib.hid hA'
  have HSZ := Lib.hid hsz
  have i2 : ((m - 1 : Nat) : Int) < (m : Int) := by omega
  clear hA' q1 q2 q3 q4 q5 hcs hcur hsz
  go_enter Try.func60, Try.ntmps60
  go_wp2_with fail
  go_still_tail 13, (by kernel_rfl)
  refine wpList_copy_in rfl (.tmp 16) (.tmp 23) rfl (some ⟨k, n, none⟩) A' (m - n) (cap - n) (m - (n + 1)) (cap - (n + 1)) rfl rfl k n cur.toList cs (by show w.heap[k]? = _; rw [HG.out]) (by rw [Q4.out]; exact (Nat.min_eq_left (by omega)).symm) (fun h => ⟨rfl, ⟨k, n + 1, none⟩, ?_, ?_⟩) (by rw [Q4.out, HSZ.out]; omega) Q5.out ?_
  · have := Q4.out
    rw [HA'.out, if_neg (by omega), Nat.zero_add]
  · intro j v hv
    rw [Addr.add_mid]
    exact Q3.out j v hv
  · intro W2 hk2 F2
    have hgk : g ≠ k := fun e => hkg e.symm
    have hb2 : Blk W2 g 89 #[.int .i64 r, .slice (some ⟨k, 0, none⟩) m cap] := by
      have := (HB.out.drewN 1).far F2 hgk
      rw [← HMM.out] at this
      exact this
    have d1 : W2.cell? ⟨g, 1, none⟩ = some (.slice (some ⟨k, 0, none⟩) m cap) := by rw [hb2.cell]; rfl
    have g1 : W2.frozen? ⟨g, 1, none⟩ = false := hb2.frozen 1
    obtain ⟨L, hL⟩ : ∃ L, L = splice cur.toList n cs := ⟨_, rfl⟩
    rw [← hL] at hk2
    have q1 := Q1.out
    have q2 := Q2.out
    rw [← hL] at q1 q2
    rw [HSZ.out] at q2
    obtain ⟨u, hu⟩ : ∃ u, L[m - 1]? = some u := ⟨L[m - 1]'(by omega), List.getElem?_eq_getElem (by omega)⟩
    have d2 : W2.cell? ⟨k, m - 1, none⟩ = some u := by rw [cell_list hk2.out, hu]
    have g2 : W2.frozen? ⟨k, m - 1, none⟩ = false := by simp [World.frozen?, hk2.out]
    have HB2 := Lib.hid hb2
    have HU := Lib.hid hu
    have R1 := Lib.hid q1
    have R2 := Lib.hid q2
    clear hb2 hL hu q1 q2
    have ht2 : ((m - 1 : Nat) : Int).toNat = m - 1 := Int.toNat_natCast _
    have hcs : (goInt cs.length) = .int .i64 ((m - (n + 1) : Nat) : Int) := by rw [Q4.out]; rfl
    rw [hcs]
    clear hcs
    go_wp2_with fail
    go_end0
    have he : (xs.eraseIdx n).length = m - 1 := by rw [List.length_eraseIdx_of_lt (by rw [← HMM.out]; exact hn'), ← HMM.out]
    have hbk2 : Blk ((W2.setCell ⟨k, m - 1, none⟩ (.string ⟨#[]⟩)).setCell ⟨g, 1, none⟩ (.slice (some ⟨k, 0, none⟩) (m - 1) cap)) k 9 (L.set (m - 1) (.string ⟨#[]⟩)).toArray := by
      have h1 : Blk W2 k 9 L.toArray := hk2.out
      have h2 := (h1.set (m - 1) (.string ⟨#[]⟩)).other (p := ⟨g, 1, none⟩) hkg (.slice (some ⟨k, 0, none⟩) (m - 1) cap)
      simpa using h2
    have hbg2 : Blk ((W2.setCell ⟨k, m - 1, none⟩ (.string ⟨#[]⟩)).setCell ⟨g, 1, none⟩ (.slice (some ⟨k, 0, none⟩) (m - 1) cap)) g 89 #[.int .i64 r, .slice (some ⟨k, 0, none⟩) (m - 1) cap] := by
      have h2 := (HB2.out.other (p := ⟨k, m - 1, none⟩) hgk (.string ⟨#[]⟩)).set 1 (.slice (some ⟨k, 0, none⟩) (m - 1) cap)
      simpa using h2
    refine ⟨rfl, _, ⟨hbg2, ?_, fun e => hkg (by cases e; rfl)⟩, ?_, rfl⟩
    · rw [he]
      refine ⟨by rw [List.length_map, he, Nat.mul_one], .inr ⟨k, cap, _, rfl, hbk, hbk2, by omega, HC.out, by simp [R2.out], ?_⟩⟩
      rw [Nat.mul_one, List.toList_toArray, List.take_set_of_le (Nat.le_refl _)]
      exact R1.out
    · have F3 : Far (Own g (Value.slice (some ⟨k, 0, none⟩) xs.length cap)) w W2 := ((Far.refl _ w).drewN 1).trans F2 (fun i _ h => .inr (by rw [h]; rfl))
      exact (F3.setCell (p := ⟨k, m - 1, none⟩) (fun _ => .inr rfl) _).setCell (p := ⟨g, 1, none⟩) (fun _ => .inl rfl) _
end Go.Proofs.Ytplahkhohhbgaaa
