/-
  Package cache: find (slices.IndexFunc with a closure).
-/
import Derived.Test.YtplahkhohhbgaaaCacheMap
import Derived.Shelf.Abstract
namespace Go.Proofs.Cch
abbrev Things := List (ByteArray × ByteArray)
def flat (ts : Things) : List Value := ts.flatMap fun t => [.string t.1, .string t.2]
/-- A key's place; -1. -/
def placeOf (ts : Things) (key : ByteArray) : Int := match ts.findIdx? (fun t => t.1 = key) with
  | some i => i
  | none => -1
theorem placeOf_miss {ts : Things} {key : ByteArray} (h : ∀ (j : Nat) (t : ByteArray × ByteArray), ts[j]? = some t → t.1 ≠ key) : placeOf ts key = -1 := by
  unfold placeOf
  rw [List.findIdx?_eq_none_iff.2]
  intro t ht
  obtain ⟨j, hj⟩ := List.getElem?_of_mem ht
  simpa using h j t hj
theorem placeOf_hit {ts : Things} {key : ByteArray} {k : Nat} {t : ByteArray × ByteArray} (hk : ts[k]? = some t) (ht : t.1 = key) (h : ∀ (j : Nat) (u : ByteArray × ByteArray), j < k → ts[j]? = some u → u.1 ≠ key) : placeOf ts key = k := by
  unfold placeOf
  obtain ⟨hlt, he⟩ := List.getElem?_eq_some_iff.1 hk
  rw [List.findIdx?_eq_some_iff_getElem.2 ⟨hlt, by simp [he, ht], fun j hj => by
    have := h j (ts[j]'(by omega)) hj (List.getElem?_eq_getElem _)
    simpa using this⟩]
theorem placeOf_cases (ts : Things) (key : ByteArray) : (placeOf ts key = -1 ∧ ∀ (j : Nat) (t : ByteArray × ByteArray), ts[j]? = some t → t.1 ≠ key) ∨ ∃ (k : Nat) (t : ByteArray × ByteArray), placeOf ts key = (k : Int) ∧ ts[k]? = some t ∧ t.1 = key ∧ ∀ (j : Nat) (u : ByteArray × ByteArray), j < k → ts[j]? = some u → u.1 ≠ key := by
  rcases h : ts.findIdx? (fun t => t.1 = key) with _ | i
  · refine .inl ⟨by unfold placeOf; rw [h], fun j t ht => ?_⟩
    have := List.findIdx?_eq_none_iff.1 h t (List.mem_of_getElem? ht)
    simpa using this
  · obtain ⟨hlt, he, hf⟩ := List.findIdx?_eq_some_iff_getElem.1 h
    refine .inr ⟨i, ts[i], by unfold placeOf; rw [h], List.getElem?_eq_getElem hlt, by simpa using he, fun j u hj hu => ?_⟩
    obtain ⟨hl, e⟩ := List.getElem?_eq_some_iff.1 hu
    have := hf j hj
    rw [← e]
    simpa using this
end Go.Proofs.Cch
namespace Go.Proofs.Ytplahkhohhbgaaa
open Go.RowKit Go.Proofs.Cch
set_option linter.unusedVariables false
set_option linter.unusedSimpArgs false
/-- A slice's address, where things lie. -/
def Th (w : World) (A : Option Addr) (ts : Things) : Prop := ts = [] ∨ ∃ b o, A = some ⟨b, o, none⟩ ∧ b < w.heap.size ∧ ∀ (j : Nat) (t : ByteArray × ByteArray), ts[j]? = some t → w.cell? ⟨b, o + j * 2, none⟩ = some (.string t.1) ∧ w.cell? ⟨b, o + j * 2 + 1, none⟩ = some (.string t.2)
theorem Th.below {w w' : World} {A : Option Addr} {ts : Things} (h : Th w A ts) (k : Below w.heap.size w w') : Th w' A ts := by
  rcases h with h | ⟨b, o, h1, h2, h3⟩
  · exact .inl h
  · exact .inr ⟨b, o, h1, Nat.lt_of_lt_of_le h2 k.size, fun j t ht => ⟨(k.cell (p := ⟨b, _, none⟩) h2).trans (h3 j t ht).1, (k.cell (p := ⟨b, _, none⟩) h2).trans (h3 j t ht).2⟩⟩
theorem Th.at_ {w : World} {A : Option Addr} {ts : Things} (h : Th w A ts) (k : Nat) (t : ByteArray × ByteArray) (ht : ts[k]? = some t) : ∃ b o, A = some ⟨b, o, none⟩ ∧ b < w.heap.size ∧ w.cell? ⟨b, o + k * 2, none⟩ = some (.string t.1) ∧ w.cell? ⟨b, o + k * 2 + 1, none⟩ = some (.string t.2) := by
  rcases h with h | ⟨b, o, h1, h2, h3⟩
  · subst h; simp at ht
  · exact ⟨b, o, h1, h2, h3 k t ht⟩
set_option maxHeartbeats 400000 in
theorem alike_any (key k v : ByteArray) (B : Nat) (W : World) (hB : B < W.heap.size) (hc : W.cell? ⟨B, 0, none⟩ = some (.string key)) :
    Calls Try.prog 64 #[.agg #[.string k, .string v], .pointer (some ⟨B, 0, none⟩)] W fun e w' => e = .returned (.bool (decide (k = key))) ∧ Below W.heap.size W w' := by
  have hbe := bytes_eq k key
  generalize decide (k = key) = r at hbe ⊢
  have hb : Below W.heap.size W (W.alloc (.cells #[.string k, .string v] 83)) := (Below.refl _ _).alloc (Nat.le_refl _) _
  have HB := Lib.hid hb
  clear hb
  have hne : B ≠ W.heap.size := by omega
  go_enter Try.func64, Try.ntmps64
  go_wp2_with fail
  go_ret
  exact ⟨rfl, HB.out⟩
set_option maxHeartbeats 1000000 in
theorem index_any (key : ByteArray) (A : Option Addr) (c : Nat) (ts : Things) (B : Nat) (w : World) (hS : Th w A ts) (hl : ts.length ≤ 1000) (hB : B < w.heap.size) (hc : w.cell? ⟨B, 0, none⟩ = some (.string key)) :
    Calls Try.prog 63 #[.slice A ts.length c, .func (.func 64) #[] #[.pointer (some ⟨B, 0, none⟩)]] w fun e w' => e = .returned (.int .i64 (placeOf ts key)) ∧ Below w.heap.size w w' := by
  have HS := Lib.hid hS
  have HC := Lib.hid hc
  clear hS hc
  have eg : ∀ args w, (callFunc 64 args).run Try.prog w = .ok (.enter 64 args) w := enters_of Try.func64 (by kernel_rfl) rfl
  go_enter Try.func63, Try.ntmps63
  go_wp2_with fail
  go_loopw [8] (fun vi wr => ∃ k : Nat, vi = .int .i64 (k : Int) ∧ k ≤ ts.length ∧ Hid (∀ (j : Nat) (u : ByteArray × ByteArray), j < k → ts[j]? = some u → u.1 ≠ key) ∧ Hid (Below w.heap.size w wr)) (fun vi _ => ts.length - (intOf vi).toNat)
  case atStart => exact ⟨0, rfl, Nat.zero_le _, Lib.hid (fun j u h => absurd h (by omega)), Lib.hid (Below.refl _ _)⟩
  case round =>
    obtain ⟨k, rfl, hk, HN, HB⟩ := hrel
    by_cases hlt : k < ts.length
    · obtain ⟨⟨tk, tv⟩, ht⟩ : ∃ t, ts[k]? = some t := ⟨_, List.getElem?_eq_getElem hlt⟩
      obtain ⟨b, o, rfl, _, d0, d1⟩ := (HS.out.below HB.out).at_ k _ ht
      simp only at d0 d1
      have i1 : (k : Int) < (ts.length : Int) := by omega
      have wk : IntKind.i64.wrap ((k : Int) + 1) = (k : Int) + 1 := IntWalk.i64_in _ (by omega)
      have hcall := alike_any key tk tv B wr (Nat.lt_of_lt_of_le hB HB.out.size) ((HB.out.cell (p := ⟨B, 0, none⟩) hB).trans HC.out)
      have CALL := Lib.hid hcall
      have HT := Lib.hid ht
      clear hcall ht
      by_cases he : tk = key
      · have HE := Lib.hid he
        clear he
        go_wp2_with (go_at_fn 64; refine CALL.out.mono ?_; rintro e w1 ⟨rfl, hb⟩; rw [decide_eq_true HE.out]; have HB1 := Lib.hid hb; clear hb)
        go_ret
        exact ⟨ret_int (placeOf_hit HT.out HE.out HN.out).symm, HB.out.trans (HB1.out.mono HB.out.size)⟩
      · have HE := Lib.hid he
        clear he
        go_wp2_with (go_at_fn 64; refine CALL.out.mono ?_; rintro e w1 ⟨rfl, hb⟩; rw [decide_eq_false HE.out]; have HB1 := Lib.hid hb; clear hb)
        refine ⟨⟨k + 1, by go_num, by omega, Lib.hid ?_, Lib.hid (HB.out.trans (HB1.out.mono HB.out.size))⟩, by simp [intOf]; omega⟩
        intro j u hj hu
        rcases Nat.lt_or_ge j k with h | h
        · exact HN.out j u h hu
        · obtain rfl : j = k := by omega
          rw [HT.out] at hu
          cases hu
          exact HE.out
    · obtain rfl : k = ts.length := by omega
      go_wp2_with fail
      go_ret
      exact ⟨ret_int (placeOf_miss (fun j t ht => HN.out j t (List.getElem?_eq_some_iff.1 ht).1 ht)).symm, HB.out⟩
end Go.Proofs.Ytplahkhohhbgaaa
