/-
  Package cache: slices.Delete of one thing.
-/
import Derived.Test.YtplahkhohhbgaaaCacheRow
namespace Go.Proofs.Ytplahkhohhbgaaa
open Go.RowKit Go.Proofs.Cch
set_option linter.unusedVariables false
set_option linter.unusedSimpArgs false
theorem splice_set {α : Type} (cur : List α) (o : Nat) (v : α) (r : List α) (h : o + (r.length + 1) ≤ cur.length) : splice (cur.set o v) (o + 1) r = splice cur o (v :: r) := by
  unfold splice
  rw [List.take_set, List.drop_set, if_pos (by omega)]
  have h1 : (cur.take (o + 1)).set o v = cur.take o ++ [v] := by
    rw [List.take_succ_eq_append_getElem (by omega), List.set_append_right _ _ (by rw [List.length_take]; omega)]
    rw [List.length_take, Nat.min_eq_left (by omega), Nat.sub_self]
    rfl
  rw [h1]
  simp [Nat.add_comm, Nat.add_left_comm]
theorem Blk.setCells {k : Nat} {t : TypeId} : ∀ (vs : List Value) (o : Nat) (cur : List Value) (w : World), Blk w k t cur.toArray → o + vs.length ≤ cur.length → Blk (w.setCells k o vs) k t (splice cur o vs).toArray
  | [], o, cur, w, h, _ => by
    show Blk w k t (splice cur o []).toArray
    unfold splice
    simpa using h
  | v :: r, o, cur, w, h, hl => by
    have h1 := h.set o v
    rw [List.setIfInBounds_toArray] at h1
    have h2 := Blk.setCells r (o + 1) (cur.set o v) (w.setCell ⟨k, o, none⟩ v) h1 (by rw [List.length_set]; simp at hl; omega)
    rw [splice_set cur o v r (by simpa using hl)] at h2
    exact h2
theorem far_setCells {S : Nat → Prop} {a : World} {k : Nat} (hk : k < a.heap.size → S k) : ∀ (vs : List Value) (o : Nat) (b : World), Far S a b → Far S a (b.setCells k o vs)
  | [], _, _, h => h
  | v :: r, o, b, h => far_setCells hk r (o + 1) _ (h.setCell (p := ⟨k, o, none⟩) hk v)
theorem elemThs : Try.prog.underlying 74 = some (.slice (Try.prog.elem 74)) := by kernel_rfl
theorem sizeThs (W : World) : (sizeOf (Try.prog.elem 74)).run Try.prog W = .ok 2 W := by kernel_rfl
theorem infoThing : (Try.prog.info? 83).map (fun i => (i.zero, i.size, i.bytes)) = some (some (.agg #[.string ⟨#[]⟩, .string ⟨#[]⟩]), 2, 32) := by kernel_rfl
theorem zeroThing (w : World) : (zeroValue 83).run Try.prog w = .ok (.agg #[.string ⟨#[]⟩, .string ⟨#[]⟩]) w := by kernel_rfl
theorem clear_one (w : World) (ty : TypeId) (b o c : Nat) (cur : List Value) (hb : Blk w b 83 cur.toArray) (ho : o + 2 ≤ cur.length) :
    (Builtin.clear_ #[74] ty #[.slice (some ⟨b, o, none⟩) 1 c]).run Try.prog w = .ok (.tuple #[]) (w.setCells b o [.string ⟨#[]⟩, .string ⟨#[]⟩]) := by
  have hst := run_storeCells_cells (P := Try.prog) b o [.string ⟨#[]⟩, .string ⟨#[]⟩] 0 w (by
    intro j hj
    rw [hb.cell, List.getElem?_toArray, List.getElem?_eq_getElem (by simp at hj; omega)]; rfl) (by intro j hj; exact hb.frozen _) (by simp [Value.oneCell'])
  simp only [Nat.add_zero] at hst
  have hz : (Builtin.zeroCells (Value.agg #[.string ⟨#[]⟩, .string ⟨#[]⟩]).cells 1).toList = [.string ⟨#[]⟩, .string ⟨#[]⟩] := by kernel_rfl
  simp [Builtin.clear_, run_underlying Try.underlying74, zeroThing, hz, hst]
theorem del_row (ts : Things) (i : Nat) (hi : i < ts.length) (cur : List Value) (hc : cur.take (ts.length * 2) = flat ts) (e : List Value) (he : e.length = 2) (hs : ts.length * 2 ≤ cur.length) :
    (splice (splice cur (i * 2) (flat (ts.drop (i + 1)))) ((ts.length - 1) * 2) e).take ((ts.length - 1) * 2) = flat (ts.eraseIdx i) := by
  have hn : (flat (ts.drop (i + 1))).length = (ts.length - (i + 1)) * 2 := by rw [flat_length, List.length_drop]
  have hs1 : (splice cur (i * 2) (flat (ts.drop (i + 1)))).length = cur.length := length_splice _ _ _ (by rw [hn]; omega)
  conv => lhs; unfold splice
  rw [List.take_append_of_le_length (by rw [List.length_take]; change _ ≤ min _ (splice cur (i * 2) (flat (ts.drop (i + 1)))).length; omega), List.take_take, Nat.min_self]
  change List.take _ (splice cur (i * 2) (flat (ts.drop (i + 1)))) = _
  unfold splice
  have h1 : (cur.take (i * 2)).length = i * 2 := by rw [List.length_take]; omega
  rw [List.take_append, h1, List.take_of_length_le (l := cur.take (i * 2)) (by omega), List.take_append_of_le_length (by rw [hn]; omega), List.take_of_length_le (l := flat (ts.drop (i + 1))) (by rw [hn]; omega)]
  rw [List.eraseIdx_eq_take_drop_succ, flat_append, flat_take, ← hc, List.take_take, Nat.min_eq_left (by omega)]
set_option maxRecDepth 100000 in
set_option maxHeartbeats 2000000 in
theorem delete_any (B : Nat) (v : Value) (ts : Things) (i : Nat) (hi : i < ts.length) (w : World) (hR : Rt w B v ts) (hl : ts.length ≤ 1000) :
    Calls Try.prog 50 #[v, .int .i64 (i : Int), .int .i64 ((i : Int) + 1)] w fun e w' => ∃ v', e = .returned v' ∧ Rt w' B v' (ts.eraseIdx i) ∧ v'.ownBlock = v.ownBlock ∧ Far (fun j => v.ownBlock = some j) w w' := by
  obtain ⟨k, cap, cur, rfl, hB, hk, hle, hcap, hsz, hcur⟩ := hR.block (by intro e; subst e; simp at hi)
  obtain ⟨n, hn⟩ : ∃ n, n = ts.length := ⟨_, rfl⟩
  have HR := Lib.hid hR
  have HK : Hid (Blk w k 83 cur.toArray) := Lib.hid hk
  have HCUR := Lib.hid hcur
  have HSZ := Lib.hid hsz
  clear hR hk hcur hsz
  rw [← hn] at hi hl hle ⊢
  have i1 : (0 : Int) ≤ (i : Int) := by omega
  have i2 : (i : Int) ≤ (i : Int) + 1 := by omega
  have i3 : (i : Int) + 1 ≤ (n : Int) := by omega
  have i4 : (n : Int) ≤ (cap : Int) := by omega
  have i5 : ¬ (i : Int) = (i : Int) + 1 := by omega
  have s1 : ∀ W : World, (Instr.slice 74 (.slice (some ⟨k, 0, none⟩) n cap) none (some (.int .i64 (i : Int))) none).run Try.prog W = .ok (.slice (some ⟨k, 0, none⟩) i cap) W := fun W => by
    rw [run_slice_h W 74 (some ⟨k, 0, none⟩) n cap elemThs .i64 (i : Int) (by omega) (by omega), sizeThs]
    simp [Result.andThen, sliced, Addr.add]
  obtain ⟨A1, hA1⟩ : ∃ A', A' = (if cap = i + 1 then (⟨k, 0, none⟩ : Addr) else ⟨k, (i + 1) * 2, none⟩) := ⟨_, rfl⟩
  have s2 : ∀ W : World, (Instr.slice 74 (.slice (some ⟨k, 0, none⟩) n cap) (some (.int .i64 ((i : Int) + 1))) none none).run Try.prog W = .ok (.slice (some A1) (n - (i + 1)) (cap - (i + 1))) W := fun W => by
    rw [show ((i : Int) + 1) = ((i + 1 : Nat) : Int) by omega, run_slice_l W 74 (some ⟨k, 0, none⟩) n cap elemThs .i64 ((i + 1 : Nat) : Int) (by omega) (by omega), sizeThs, hA1]
    simp only [Result.andThen, sliced, Int.toNat_natCast]
    split <;> simp [Addr.add]
  have HA1 := Lib.hid hA1
  have HN := Lib.hid hn
  have HLE := Lib.hid hle
  have HCAP := Lib.hid hcap
  have HI := Lib.hid hi
  clear hA1 hn
  go_enter Try.func50, Try.ntmps50
  go_wp2_with fail
  obtain ⟨i0, hi0, hz0, hz1, hz2⟩ := info_parts infoThing
  obtain ⟨news, hnews⟩ : ∃ l, l = flat (ts.drop (i + 1)) := ⟨_, rfl⟩
  have hnl : news.length = (n - (i + 1)) * 2 := by rw [hnews, flat_length, List.length_drop, HN.out]
  have hkc : ∀ j : Nat, w.drew.cell? ⟨k, j, none⟩ = cur[j]? := fun j => by
    have := HK.out.cell j
    rw [List.getElem?_toArray] at this
    exact this
  have hcell : ∀ j u, news[j]? = some u → w.drew.cell? (A1.add j) = some u := fun j u hu => by
    have hj : j < (n - (i + 1)) * 2 := by have := (List.getElem?_eq_some_iff.1 hu).1; omega
    have hle' := HLE.out
    rw [HA1.out, if_neg (by omega), Addr.add_mid, hkc]
    rw [hnews, flat_drop, ← HCUR.out, List.getElem?_drop] at hu
    rw [List.getElem?_take_of_lt (by rw [← HN.out]; omega)] at hu
    exact hu
  have hspare : ∀ j, j < news.length → (w.drew.cell? ⟨k, 0 + i * 2 + j, none⟩).isSome = true ∧ w.drew.frozen? ⟨k, 0 + i * 2 + j, none⟩ = false := fun j hj => by
    have hle' := HLE.out
    have hsz' := HSZ.out
    rw [hkc, List.getElem?_eq_getElem (by omega)]
    exact ⟨rfl, HK.out.frozen _⟩
  have HNL := Lib.hid hnl
  have HCE := Lib.hid hcell
  have HSP := Lib.hid hspare
  have HNW := Lib.hid hnews
  have HONE : Hid (∀ u ∈ news, u.oneCell' = true) := Lib.hid (by rw [hnews]; exact flat_one _)
  have HRM : Hid (i + (n - (i + 1)) ≤ cap) := Lib.hid (by have := HLE.out; omega)
  clear hnl hcell hspare hnews hkc
  go_region_law (refine step_append_room rfl (.tmp 22) (.tmp 25) 74 rfl 83 i0 2 Try.underlying74 hi0 hz1 k 0 i cap rfl A1 (n - (i + 1)) (cap - (i + 1)) news rfl HNL.out HCE.out HONE.out HRM.out HSP.out ?_)
  obtain ⟨p, hp⟩ : ∃ p, p = n - 1 := ⟨_, rfl⟩
  have hpn : i + (n - (i + 1)) = p := by omega
  rw [hpn]
  have hle' := HLE.out
  have hsz' := HSZ.out
  have bk : Blk (w.drew.setCells k (0 + i * 2) news) k 83 (splice cur (0 + i * 2) news).toArray := Blk.setCells news _ cur w.drew HK.out (by rw [HNL.out]; omega)
  have fk : Far (fun j => j = k) w (w.drew.setCells k (0 + i * 2) news) := far_setCells (S := fun j => j = k) (fun _ => rfl) _ _ _ ((Far.refl _ w).drew)
  rw [Nat.zero_add] at bk fk
  try simp only [Nat.zero_add]
  generalize w.drew.setCells k (i * 2) news = W1 at bk fk ⊢
  have hl1 : (splice cur (i * 2) news).length = cap * 2 := by rw [length_splice _ _ _ (by rw [HNL.out]; omega)]; exact hsz'
  have s3 : ∀ W : World, (Instr.slice 74 (.slice (some ⟨k, 0, none⟩) p cap) (some (.int .i64 (p : Int))) (some (.int .i64 (n : Int))) none).run Try.prog W = .ok (.slice (some ⟨k, p * 2, none⟩) 1 (cap - p)) W := fun W => by
    rw [run_slice_lh W 74 (some ⟨k, 0, none⟩) p cap elemThs .i64 .i64 (p : Int) (n : Int) (by omega) (by omega) (by omega), sizeThs]
    simp only [Result.andThen, sliced, Int.toNat_natCast]
    rw [if_neg (by omega), show n - p = 1 by omega]
    simp only [Option.map_some, Addr.add_mid, Nat.zero_add]
  have hcl : ∀ ty : TypeId, (Builtin.clear_ #[74] ty #[.slice (some ⟨k, p * 2, none⟩) 1 (cap - p)]).run Try.prog W1 = .ok (.tuple #[]) (W1.setCells k (p * 2) [.string ⟨#[]⟩, .string ⟨#[]⟩]) := fun ty => clear_one W1 ty k (p * 2) (cap - p) _ bk (by rw [hl1]; omega)
  have j1 : (p : Int) ≤ (n : Int) := by omega
  have BK := Lib.hid bk
  have FK := Lib.hid fk
  have HL1 := Lib.hid hl1
  have HP := Lib.hid hp
  clear bk fk hl1 hp hpn hle' hsz'
  go_wp2_with fail
  go_ret
  have hpp := HP.out
  have hll := HLE.out
  obtain ⟨L2, hL2⟩ : ∃ L2, L2 = splice (splice cur (i * 2) news) (p * 2) [Value.string ⟨#[]⟩, .string ⟨#[]⟩] := ⟨_, rfl⟩
  have b2 := Blk.setCells [Value.string ⟨#[]⟩, .string ⟨#[]⟩] (p * 2) _ W1 BK.out (by rw [HL1.out]; simp; omega)
  rw [← hL2] at b2
  have hl2 : L2.length = cap * 2 := by rw [hL2, length_splice _ _ _ (by rw [HL1.out]; simp; omega), HL1.out]
  have htk : L2.take (p * 2) = flat (ts.eraseIdx i) := by
    have := del_row ts i (by rw [← HN.out]; exact hi) cur HCUR.out [Value.string ⟨#[]⟩, .string ⟨#[]⟩] rfl (by rw [← HN.out, HSZ.out]; have := HLE.out; omega)
    rw [← HN.out, ← HNW.out, ← HP.out, ← hL2] at this
    exact this
  have hlen : (ts.eraseIdx i).length = p := by rw [List.length_eraseIdx_of_lt (by rw [← HN.out]; exact hi), ← HN.out, HP.out]
  refine ⟨_, rfl, ?_, rfl, ?_⟩
  · show World.ownsRow _ B 83 2 _ (ts.eraseIdx i).length (flat (ts.eraseIdx i))
    rw [hlen]
    exact ⟨by rw [flat_length, hlen], .inr ⟨k, cap, L2.toArray, rfl, hB, b2, by have := HLE.out; omega, HCAP.out, by simp [hl2], by rw [List.toList_toArray]; exact htk⟩⟩
  · exact far_setCells (S := fun j => some k = some j) (fun _ => rfl) _ _ _ (FK.out.mono (fun j _ h => by rw [h]))
end Go.Proofs.Ytplahkhohhbgaaa
