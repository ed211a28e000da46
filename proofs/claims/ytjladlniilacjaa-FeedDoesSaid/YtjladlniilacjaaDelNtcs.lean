/-
  slices.Delete of the first things of a row: Ntcs.
-/
import Derived.Test.YtjladlniilacjaaSplice
import Derived.Laws.CopyOwn
import Derived.Deep.RegionLaw
import Derived.Deep.AppendLies
import Derived.StillTailTactics
namespace Go.Proofs.Ytjladlniilacjaa
open Go.RowKit
set_option linter.unusedVariables false
set_option linter.unusedSimpArgs false
theorem elemNtcs : Try.prog.underlying 72 = some (.slice (Try.prog.elem 72)) := by kernel_rfl
theorem sizeNtcs (W : World) : (sizeOf (Try.prog.elem 72)).run Try.prog W = .ok 5 W := by kernel_rfl
theorem infoNtcs : (Try.prog.info? 63).map (fun i => (i.zero, i.size, i.bytes)) = some (some (.agg #[.int .i64 0, .int .i64 0, .int .i64 0, .string ⟨#[]⟩, .slice none 0 0]), 5, 64) := by kernel_rfl
theorem zeroNtcs (w : World) : (zeroValue 63).run Try.prog w = .ok (.agg #[.int .i64 0, .int .i64 0, .int .i64 0, .string ⟨#[]⟩, .slice none 0 0]) w := by kernel_rfl
def zsNtcs (d : Nat) : List Value := (Builtin.zeroCells (.agg #[.int .i64 0, .int .i64 0, .int .i64 0, .string ⟨#[]⟩, .slice none 0 0] : Value).cells d).toList
theorem zsNtcs_len (d : Nat) : (zsNtcs d).length = d * 5 := by
  unfold zsNtcs Builtin.zeroCells
  rw [Array.length_toList, Array.size_map, Array.size_range]
  rfl
theorem zsNtcs_one (d : Nat) : ∀ u ∈ zsNtcs d, u.oneCell' = true := by
  intro u hu
  unfold zsNtcs Builtin.zeroCells at hu
  simp only [Array.toList_map, List.mem_map] at hu
  obtain ⟨i, _, rfl⟩ := hu
  have hk : (.agg #[.int .i64 0, .int .i64 0, .int .i64 0, .string ⟨#[]⟩, .slice none 0 0] : Value).cells.size = 5 := rfl
  rw [hk]
  have : i % 5 < 5 := Nat.mod_lt _ (by decide)
  have hc : i % 5 = 0 ∨ i % 5 = 1 ∨ i % 5 = 2 ∨ i % 5 = 3 ∨ i % 5 = 4 := by omega
  rcases hc with hc | hc | hc | hc | hc <;> rw [hc] <;> rfl
theorem clear_Ntcs (w : World) (ty : TypeId) (b o d c : Nat) (hd : 0 < d) (cur : List Value) (hb : Blk w b 63 cur.toArray) (ho : o + d * 5 ≤ cur.length) :
    (Builtin.clear_ #[72] ty #[.slice (some ⟨b, o, none⟩) d c]).run Try.prog w = .ok (.tuple #[]) (w.setCells b o (zsNtcs d)) := by
  have hst := run_storeCells_cells (P := Try.prog) b o (zsNtcs d) 0 w (by
    intro j hj
    rw [zsNtcs_len] at hj
    rw [hb.cell, List.getElem?_toArray, List.getElem?_eq_getElem (by omega)]; rfl) (by intro j hj; exact hb.frozen _) (zsNtcs_one d)
  simp only [Nat.add_zero] at hst
  have hz : (Builtin.zeroCells (.agg #[.int .i64 0, .int .i64 0, .int .i64 0, .string ⟨#[]⟩, .slice none 0 0] : Value).cells d).toList = zsNtcs d := rfl
  have hd0 : ¬ d = 0 := by omega
  simp [Builtin.clear_, run_underlying Try.underlying72, zeroNtcs, hz, hst, hd0]
set_option maxRecDepth 100000 in
set_option maxHeartbeats 2000000 in
theorem del_Ntcs (B : Nat) (v : Value) (n d : Nat) (xs : List Value) (w : World) (hR : w.ownsRow B 63 5 v n xs) (hd : 0 < d) (hdn : d ≤ n) (hl : n ≤ 1000) (hone : ∀ x ∈ xs, x.oneCell' = true) :
    Calls Try.prog 62 #[v, .int .i64 0, .int .i64 (d : Int)] w fun e w' => ∃ v', e = .returned v' ∧ w'.ownsRow B 63 5 v' (n - d) (xs.drop (d * 5)) ∧ v'.ownBlock = v.ownBlock ∧ Far (fun j => v.ownBlock = some j) w w' := by
  have hxl : xs.length = n * 5 := hR.1
  obtain ⟨k, cap, cur, rfl, hB, hk, hle, hcap, hsz, hcur⟩ : ∃ (k cap : Nat) (cur : List Value), v = .slice (some ⟨k, 0, none⟩) n cap ∧ B ≤ k ∧ w.heap[k]? = some (.cells cur.toArray 63) ∧ n ≤ cap ∧ cap ≤ maxLen ∧ cur.length = cap * 5 ∧ cur.take (n * 5) = xs := by
    rcases hR.2 with ⟨_, h2⟩ | ⟨k, cap, cur, rfl, hb, hg, hle, hcap, hs, ht⟩
    · omega
    · exact ⟨k, cap, cur.toList, rfl, hb, by rw [Array.toArray_toList]; exact hg, hle, hcap, by simpa using hs, ht⟩
  have HK : Hid (Blk w k 63 cur.toArray) := Lib.hid hk
  have HCUR := Lib.hid hcur
  have HSZ := Lib.hid hsz
  have HXL := Lib.hid hxl
  clear hR hk hcur hsz hxl
  have i0 : (0 : Int) ≤ (d : Int) := by omega
  have i2 : (d : Int) ≤ (n : Int) := by omega
  have i4 : (n : Int) ≤ (cap : Int) := by omega
  have i5 : ¬ (0 : Int) = (d : Int) := by omega
  have i6 : ((0 : Int) == (d : Int)) = false := by simpa using i5
  have s1 : ∀ W : World, (Instr.slice 72 (.slice (some ⟨k, 0, none⟩) n cap) none (some (.int .i64 0)) none).run Try.prog W = .ok (.slice (some ⟨k, 0, none⟩) 0 cap) W := fun W => by
    rw [run_slice_h W 72 (some ⟨k, 0, none⟩) n cap elemNtcs .i64 (0 : Int) (by omega) (by omega), sizeNtcs]
    simp [Result.andThen, sliced, Addr.add]
  obtain ⟨A1, hA1⟩ : ∃ A', A' = (if cap = d then (⟨k, 0, none⟩ : Addr) else ⟨k, d * 5, none⟩) := ⟨_, rfl⟩
  have s2 : ∀ W : World, (Instr.slice 72 (.slice (some ⟨k, 0, none⟩) n cap) (some (.int .i64 (d : Int))) none none).run Try.prog W = .ok (.slice (some A1) (n - d) (cap - d)) W := fun W => by
    rw [run_slice_l W 72 (some ⟨k, 0, none⟩) n cap elemNtcs .i64 (d : Int) (by omega) (by omega), sizeNtcs, hA1]
    simp only [Result.andThen, sliced, Int.toNat_natCast]
    split <;> simp [Addr.add] <;> omega
  have HA1 := Lib.hid hA1
  have HLE := Lib.hid hle
  have HCAP := Lib.hid hcap
  clear hA1
  go_enter Try.func62, Try.ntmps62
  go_wp2_with fail
  obtain ⟨i0', hi0, hz0, hz1, hz2⟩ := info_partsK infoNtcs
  obtain ⟨news, hnews⟩ : ∃ l, l = xs.drop (d * 5) := ⟨_, rfl⟩
  have hnl : news.length = (n - d) * 5 := by rw [hnews, List.length_drop, HXL.out]; omega
  have hkc : ∀ j : Nat, w.drew.cell? ⟨k, j, none⟩ = cur[j]? := fun j => by
    have := HK.out.cell j
    rw [List.getElem?_toArray] at this
    exact this
  have hcell : ∀ j u, news[j]? = some u → w.drew.cell? (A1.add j) = some u := fun j u hu => by
    have hj : j < (n - d) * 5 := by have := (List.getElem?_eq_some_iff.1 hu).1; omega
    have hle' := HLE.out
    rw [HA1.out, if_neg (by omega), Addr.add_mid, hkc]
    rw [hnews, ← HCUR.out, List.getElem?_drop] at hu
    rw [List.getElem?_take_of_lt (by omega)] at hu
    exact hu
  have hspare : ∀ j, j < news.length → (w.drew.cell? ⟨k, 0 + 0 * 5 + j, none⟩).isSome = true ∧ w.drew.frozen? ⟨k, 0 + 0 * 5 + j, none⟩ = false := fun j hj => by
    have hle' := HLE.out
    have hsz' := HSZ.out
    rw [hkc, List.getElem?_eq_getElem (by omega)]
    exact ⟨rfl, HK.out.frozen _⟩
  have HNL := Lib.hid hnl
  have HCE := Lib.hid hcell
  have HSP := Lib.hid hspare
  have HNW := Lib.hid hnews
  have HONE : Hid (∀ u ∈ news, u.oneCell' = true) := Lib.hid (fun u hu => hone u (by rw [hnews] at hu; exact List.mem_of_mem_drop hu))
  have HRM : Hid (0 + (n - d) ≤ cap) := Lib.hid (by have := HLE.out; omega)
  clear hnl hcell hspare hnews hkc hone
  go_region_law (refine step_append_room rfl (.tmp 22) (.tmp 25) 72 rfl 63 i0' 5 Try.underlying72 hi0 hz1 k 0 0 cap rfl A1 (n - d) (cap - d) news rfl HNL.out HCE.out HONE.out HRM.out HSP.out ?_)
  obtain ⟨p, hp⟩ : ∃ p, p = n - d := ⟨_, rfl⟩
  have hpn : n - d = p := hp.symm
  try simp only [Nat.zero_add]
  rw [hpn]
  have hle' := HLE.out
  have hsz' := HSZ.out
  have bk : Blk (w.drew.setCells k (0 + 0 * 5) news) k 63 (splice cur (0 + 0 * 5) news).toArray := Blk.setCells news _ cur w.drew HK.out (by rw [HNL.out]; omega)
  have fk : Far (fun j => j = k) w (w.drew.setCells k (0 + 0 * 5) news) := far_setCells (S := fun j => j = k) (fun _ => rfl) _ _ _ ((Far.refl _ w).drew)
  simp only [Nat.zero_mul, Nat.add_zero] at bk fk
  try simp only [Nat.zero_mul, Nat.add_zero]
  generalize w.drew.setCells k 0 news = W1 at bk fk ⊢
  have hl1 : (splice cur 0 news).length = cap * 5 := by rw [length_splice _ _ _ (by rw [HNL.out]; omega)]; exact hsz'
  have s3 : ∀ W : World, (Instr.slice 72 (.slice (some ⟨k, 0, none⟩) p cap) (some (.int .i64 (p : Int))) (some (.int .i64 (n : Int))) none).run Try.prog W = .ok (.slice (some ⟨k, p * 5, none⟩) d (cap - p)) W := fun W => by
    rw [run_slice_lh W 72 (some ⟨k, 0, none⟩) p cap elemNtcs .i64 .i64 (p : Int) (n : Int) (by omega) (by omega) (by omega), sizeNtcs]
    simp only [Result.andThen, sliced, Int.toNat_natCast]
    rw [if_neg (by omega), show n - p = d by omega]
    simp only [Option.map_some, Addr.add_mid, Nat.zero_add]
  have hcl : ∀ ty : TypeId, (Builtin.clear_ #[72] ty #[.slice (some ⟨k, p * 5, none⟩) d (cap - p)]).run Try.prog W1 = .ok (.tuple #[]) (W1.setCells k (p * 5) (zsNtcs d)) := fun ty => clear_Ntcs W1 ty k (p * 5) d (cap - p) hd _ bk (by rw [hl1]; omega)
  have j1 : (p : Int) ≤ (n : Int) := by omega
  have BK := Lib.hid bk
  have FK := Lib.hid fk
  have HL1 := Lib.hid hl1
  have HP := Lib.hid hp
  clear bk fk hl1 hp hpn hle' hsz'
  go_wp2_with fail
  go_ret
  have hpp := HP.out
  have hll := HLE.out
  obtain ⟨L2, hL2⟩ : ∃ L2, L2 = splice (splice cur 0 news) (p * 5) (zsNtcs d) := ⟨_, rfl⟩
  have b2 := Blk.setCells (zsNtcs d) (p * 5) _ W1 BK.out (by rw [HL1.out, zsNtcs_len]; omega)
  rw [← hL2] at b2
  have hl2 : L2.length = cap * 5 := by rw [hL2, length_splice _ _ _ (by rw [HL1.out, zsNtcs_len]; omega), HL1.out]
  have htk : L2.take (p * 5) = xs.drop (d * 5) := by
    rw [hL2]
    unfold splice
    rw [List.take_append_of_le_length (by rw [List.length_take]; have := HL1.out; unfold splice at this; omega), List.take_take, Nat.min_self]
    simp only [List.take_zero, List.nil_append]
    rw [List.take_append_of_le_length (by rw [HNL.out, hpp]; omega), List.take_of_length_le (by rw [HNL.out, hpp]; omega)]
    exact HNW.out
  refine ⟨_, rfl, ?_, rfl, ?_⟩
  · rw [← hpp]
    exact ⟨by rw [← HNW.out, HNL.out, hpp], .inr ⟨k, cap, L2.toArray, rfl, hB, b2, by omega, HCAP.out, by simp [hl2], by rw [List.toList_toArray]; exact htk⟩⟩
  · exact far_setCells (S := fun j => some k = some j) (fun _ => rfl) _ _ _ (FK.out.mono (fun j _ h => by rw [h]))
end Go.Proofs.Ytjladlniilacjaa
