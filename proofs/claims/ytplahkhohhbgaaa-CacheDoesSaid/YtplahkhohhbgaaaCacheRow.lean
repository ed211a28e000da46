/-
  Package cache: rows of things; slices.Delete of one.
-/
import Derived.Test.YtplahkhohhbgaaaCacheFind
import Derived.Laws.CopyOwn
import Derived.Deep.RegionLaw
import Derived.Deep.AppendLies
import Derived.StillTailTactics
namespace Go.Proofs.Cch
theorem flat_length (ts : Things) : (flat ts).length = ts.length * 2 := by
  unfold flat
  induction ts with
  | nil => rfl
  | cons t r ih => simp [List.flatMap_cons, ih]; omega
theorem flat_append (a b : Things) : flat (a ++ b) = flat a ++ flat b := by simp [flat, List.flatMap_append]
theorem flat_get : ∀ (ts : Things) (j : Nat) (t : ByteArray × ByteArray), ts[j]? = some t → (flat ts)[j * 2]? = some (.string t.1) ∧ (flat ts)[j * 2 + 1]? = some (.string t.2)
  | [], _, _, h => by simp at h
  | x :: r, 0, t, h => by
    simp at h
    subst h
    simp [flat, List.flatMap_cons]
  | x :: r, j + 1, t, h => by
    have := flat_get r j t (by simpa using h)
    have e : flat (x :: r) = .string x.1 :: .string x.2 :: flat r := by simp [flat, List.flatMap_cons]
    rw [e, show (j + 1) * 2 = (j * 2) + 2 by omega, show (j * 2) + 2 + 1 = (j * 2 + 1) + 2 by omega]
    exact this
theorem flat_one (ts : Things) : ∀ v ∈ flat ts, v.oneCell' = true := by
  intro v hv
  obtain ⟨t, _, h⟩ := List.mem_flatMap.1 hv
  simp at h
  rcases h with rfl | rfl <;> rfl
theorem flat_take (ts : Things) (k : Nat) : flat (ts.take k) = (flat ts).take (k * 2) := by
  rcases Nat.le_total k ts.length with h | h
  · have h1 : flat ts = flat (ts.take k) ++ flat (ts.drop k) := by rw [← flat_append, List.take_append_drop]
    have h2 : (flat (ts.take k)).length = k * 2 := by rw [flat_length, List.length_take, Nat.min_eq_left h]
    rw [h1, ← h2, List.take_left]
  · rw [List.take_of_length_le h, List.take_of_length_le (by rw [flat_length]; omega)]
theorem flat_drop (ts : Things) (k : Nat) : flat (ts.drop k) = (flat ts).drop (k * 2) := by
  rcases Nat.le_total k ts.length with h | h
  · have h1 : flat ts = flat (ts.take k) ++ flat (ts.drop k) := by rw [← flat_append, List.take_append_drop]
    have h2 : (flat (ts.take k)).length = k * 2 := by rw [flat_length, List.length_take, Nat.min_eq_left h]
    rw [h1, ← h2, List.drop_left]
  · rw [List.drop_of_length_le h, List.drop_of_length_le (by rw [flat_length]; omega)]; rfl
end Go.Proofs.Cch
namespace Go.Proofs.Ytplahkhohhbgaaa
open Go.RowKit Go.Proofs.Cch
set_option linter.unusedVariables false
set_option linter.unusedSimpArgs false
/-- A row of things of one's own. -/
def Rt (w : World) (B : Nat) (v : Value) (ts : Things) : Prop := w.ownsRow B 83 2 v ts.length (flat ts)
/-- .. that lies in a block. -/
theorem Rt.block {w : World} {B : Nat} {v : Value} {ts : Things} (h : Rt w B v ts) (hne : ts ≠ []) :
    ∃ (k cap : Nat) (cur : List Value), v = .slice (some ⟨k, 0, none⟩) ts.length cap ∧ B ≤ k ∧ w.heap[k]? = some (.cells cur.toArray 83) ∧ ts.length ≤ cap ∧ cap ≤ maxLen ∧ cur.length = cap * 2 ∧ cur.take (ts.length * 2) = flat ts := by
  rcases h.2 with ⟨_, h2⟩ | ⟨k, cap, cur, rfl, hb, hg, hle, hcap, hs, ht⟩
  · exact absurd (List.length_eq_zero_iff.1 h2) hne
  · exact ⟨k, cap, cur.toList, rfl, hb, by rw [Array.toArray_toList]; exact hg, hle, hcap, by simpa using hs, ht⟩
theorem Rt.th {w : World} {B : Nat} {v : Value} {ts : Things} (h : Rt w B v ts) : ∃ A c, v = .slice A ts.length c ∧ ts.length ≤ c ∧ Th w A ts := by
  rcases h.2 with ⟨rfl, h2⟩ | ⟨k, cap, cur, rfl, hb, hg, hle, hcap, hs, ht⟩
  · rw [h2]
    exact ⟨none, 0, rfl, Nat.le_refl _, .inl (List.length_eq_zero_iff.1 h2)⟩
  · refine ⟨_, cap, rfl, hle, .inr ⟨k, 0, rfl, (Array.getElem?_eq_some_iff.1 hg).1, fun j t hj => ?_⟩⟩
    have hlt := (List.getElem?_eq_some_iff.1 hj).1
    obtain ⟨h1, h2⟩ := flat_get ts j t hj
    rw [← ht, List.getElem?_take_of_lt (by omega)] at h1
    rw [← ht, List.getElem?_take_of_lt (by omega)] at h2
    simp only [World.cell?, hg, Nat.zero_add]
    exact ⟨by simpa using h1, by simpa using h2⟩
set_option maxHeartbeats 400000 in
theorem find_any {w : World} {g : Nat} {size asked : Int} {A : Option Addr} {c m : Nat} {ts : Things} (key : ByteArray) (hg : Blk w g 76 #[.int .i64 size, .slice A ts.length c, .map (some m), .int .i64 asked]) (hS : Th w A ts) (hl : ts.length ≤ 1000) :
    Calls Try.prog 49 #[.pointer (some ⟨g, 0, none⟩), .string key] w fun e w' => e = .returned (.int .i64 (placeOf ts key)) ∧ Below w.heap.size w w' := by
  have b := (Below.refl w.heap.size w).alloc (Nat.le_refl _) (.cells #[.string key] 9)
  have hT := hS.below b
  have c1 : (w.alloc (.cells #[.string key] 9)).cell? ⟨g, 1, none⟩ = some (.slice A ts.length c) := by rw [(hg.alloc _).cell]; rfl
  have IX := Lib.hid (index_any key A c ts w.heap.size _ hT hl (by simp) (by rw [World.cell?_alloc_new]; rfl))
  have HB := Lib.hid b
  clear b hT hS hg
  go_enter Try.func49, Try.ntmps49
  go_wp2_with (go_at_call 63; refine IX.out.mono ?_; rintro e w1 ⟨rfl, hb⟩; have HB1 := Lib.hid hb; clear hb)
  go_ret
  exact ⟨rfl, HB.out.trans (HB1.out.mono (by simp))⟩
end Go.Proofs.Ytplahkhohhbgaaa
