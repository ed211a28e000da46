/-
  The document's answer for cache (guillocheref07): rows of pairs; results; New, Often, Find.
-/
import Derived.Test.YtplahkhohhbgaaaCacheRoomW
namespace Go.Proofs.Cch
def flatC (cs : Counts) : List Value := cs.flatMap fun t => [.string t.1, .int .i64 (t.2 : Int)]
end Go.Proofs.Cch
namespace Go.Proofs.Ytplahkhohhbgaaa
open Go.RowKit Go.Proofs.Cch
set_option linter.unusedVariables false
set_option linter.unusedSimpArgs false
/-- Pairs of cells. -/
def flat2 (l : List (Value × Value)) : List Value := l.flatMap fun t => [t.1, t.2]
theorem flat2_length (l : List (Value × Value)) : (flat2 l).length = l.length * 2 := by
  unfold flat2
  induction l with
  | nil => rfl
  | cons t r ih => simp [List.flatMap_cons, ih]; omega
theorem flat2_append (a b : List (Value × Value)) : flat2 (a ++ b) = flat2 a ++ flat2 b := by simp [flat2, List.flatMap_append]
theorem flat2_get : ∀ (l : List (Value × Value)) (j : Nat) (t : Value × Value), l[j]? = some t → (flat2 l)[j * 2]? = some t.1 ∧ (flat2 l)[j * 2 + 1]? = some t.2
  | [], _, _, h => by simp at h
  | x :: r, 0, t, h => by
    simp at h
    subst h
    simp [flat2, List.flatMap_cons]
  | x :: r, j + 1, t, h => by
    have := flat2_get r j t (by simpa using h)
    have e : flat2 (x :: r) = x.1 :: x.2 :: flat2 r := by simp [flat2, List.flatMap_cons]
    rw [e, show (j + 1) * 2 = (j * 2) + 2 by omega, show (j * 2) + 2 + 1 = (j * 2 + 1) + 2 by omega]
    exact this
/-- No block of the program's cache. -/
def Oth (w : World) (b : Nat) : Prop := ∃ cs T fr, w.heap[b]? = some (.cells cs T fr) ∧ T ≠ 83 ∧ T ≠ 76
/-- A slice's address, where pairs lie. -/
def Tp (w : World) (A : Option Addr) (l : List (Value × Value)) : Prop := l = [] ∨ ∃ b o, A = some ⟨b, o, none⟩ ∧ b < w.heap.size ∧ (∀ (j : Nat) (t : Value × Value), l[j]? = some t → w.cell? ⟨b, o + j * 2, none⟩ = some t.1 ∧ w.cell? ⟨b, o + j * 2 + 1, none⟩ = some t.2) ∧ Oth w b
theorem Tp.below {w w' : World} {A : Option Addr} {l : List (Value × Value)} (h : Tp w A l) (k : Below w.heap.size w w') : Tp w' A l := by
  rcases h with h | ⟨b, o, h1, h2, h3, cs, T, fr, h4, h5⟩
  · exact .inl h
  · exact .inr ⟨b, o, h1, Nat.lt_of_lt_of_le h2 k.size, fun j t ht => ⟨(k.cell (p := ⟨b, _, none⟩) h2).trans (h3 j t ht).1, (k.cell (p := ⟨b, _, none⟩) h2).trans (h3 j t ht).2⟩, cs, T, fr, (k.block b h2).trans h4, h5⟩
theorem Tp.at_ {w : World} {A : Option Addr} {l : List (Value × Value)} (h : Tp w A l) (k : Nat) (t : Value × Value) (ht : l[k]? = some t) : ∃ b o, A = some ⟨b, o, none⟩ ∧ b < w.heap.size ∧ w.cell? ⟨b, o + k * 2, none⟩ = some t.1 ∧ w.cell? ⟨b, o + k * 2 + 1, none⟩ = some t.2 := by
  rcases h with h | ⟨b, o, h1, h2, h3, _⟩
  · subst h; simp at ht
  · exact ⟨b, o, h1, h2, h3 k t ht⟩
/-- A slice value of pairs. -/
def Rp (w : World) (v : Value) (l : List (Value × Value)) : Prop := ∃ A c, v = .slice A l.length c ∧ Tp w A l ∧ (A = none → c = 0) ∧ l.length ≤ c
theorem Rp.nil (w : World) : Rp w (.slice none 0 0) [] := ⟨none, 0, rfl, .inl rfl, fun _ => rfl, Nat.le_refl _⟩
theorem Rp.below {w w' : World} {v : Value} {l : List (Value × Value)} (h : Rp w v l) (k : Below w.heap.size w w') : Rp w' v l := by
  obtain ⟨A, c, h1, h2, h3⟩ := h
  exact ⟨A, c, h1, h2.below k, h3⟩
theorem Rp.of_own {w : World} {B : Nat} {T : TypeId} {v : Value} {l : List (Value × Value)} (h : w.ownsRow B T 2 v l.length (flat2 l)) (hT : T ≠ 83 ∧ T ≠ 76 := by decide) : Rp w v l := by
  rcases h.2 with ⟨rfl, h2⟩ | ⟨k, cap, cur, rfl, hb, hg, hle, hcap, hs, ht⟩
  · rw [List.length_eq_zero_iff.1 h2]
    exact Rp.nil w
  · refine ⟨_, cap, rfl, .inr ⟨k, 0, rfl, (Array.getElem?_eq_some_iff.1 hg).1, fun j t hj => ?_, _, _, _, hg, hT⟩, fun h => (by cases h), hle⟩
    have hlt := (List.getElem?_eq_some_iff.1 hj).1
    obtain ⟨h1, h2⟩ := flat2_get l j t hj
    rw [← ht, List.getElem?_take_of_lt (by omega)] at h1
    rw [← ht, List.getElem?_take_of_lt (by omega)] at h2
    simp only [World.cell?, hg, Nat.zero_add]
    exact ⟨by simpa using h1, by simpa using h2⟩
/-- Things, and counts, as pairs. -/
def pT (ts : Things) : List (Value × Value) := ts.map fun t => (.string t.1, .string t.2)
def pC (cs : Counts) : List (Value × Value) := cs.map fun t => (.string t.1, .int .i64 (t.2 : Int))
theorem pT_length (ts : Things) : (pT ts).length = ts.length := by unfold pT; rw [List.length_map]
theorem pC_length (cs : Counts) : (pC cs).length = cs.length := by unfold pC; rw [List.length_map]
theorem pT_at {ts : Things} {k : Nat} {t : ByteArray × ByteArray} (h : ts[k]? = some t) : (pT ts)[k]? = some (.string t.1, .string t.2) := by unfold pT; rw [List.getElem?_map, h]; rfl
theorem pC_at {cs : Counts} {k : Nat} {t : ByteArray × Nat} (h : cs[k]? = some t) : (pC cs)[k]? = some (.string t.1, .int .i64 (t.2 : Int)) := by unfold pC; rw [List.getElem?_map, h]; rfl
theorem pT_append (a b : Things) : pT (a ++ b) = pT a ++ pT b := by unfold pT; rw [List.map_append]
theorem pC_append (a b : Counts) : pC (a ++ b) = pC a ++ pC b := by unfold pC; rw [List.map_append]
theorem one2_T (ts : Things) : ∀ v ∈ flat2 (pT ts), v.oneCell' = true := by
  intro v hv
  obtain ⟨t, ht, h⟩ := List.mem_flatMap.1 hv
  obtain ⟨u, _, rfl⟩ := List.mem_map.1 ht
  simp at h
  rcases h with rfl | rfl <;> rfl
theorem one2_C (cs : Counts) : ∀ v ∈ flat2 (pC cs), v.oneCell' = true := by
  intro v hv
  obtain ⟨t, ht, h⟩ := List.mem_flatMap.1 hv
  obtain ⟨u, _, rfl⟩ := List.mem_map.1 ht
  simp at h
  rcases h with rfl | rfl <;> rfl
theorem infoRefThing : (Try.prog.info? 79).map (fun i => (i.zero, i.size, i.bytes)) = some (some (.agg #[.string ⟨#[]⟩, .string ⟨#[]⟩]), 2, 32) := by kernel_rfl
theorem infoRefCount : (Try.prog.info? 87).map (fun i => (i.zero, i.size, i.bytes)) = some (some (.agg #[.string ⟨#[]⟩, .int .i64 0]), 2, 24) := by kernel_rfl
/-- append of pairs, as one operation. -/
theorem append_two {T S : TypeId} {z : Value} {bytes : Nat} (hU : Try.prog.underlying S = some (.slice T)) (hI : (Try.prog.info? T).map (fun i => (i.zero, i.size, i.bytes)) = some (some z, 2, bytes)) (hz : z.cells.size = 2) (hby : 0 < bytes) (hby2 : bytes ≤ 100)
    (W : World) (base : Nat) (v : Value) (n : Nat) (xs : List Value) (hown : W.ownsRow base T 2 v n xs) (b o m c : Nat) (ys : List Value) (hy : ys.length = m * 2) (hc : ∀ j y, ys[j]? = some y → W.cell? ⟨b, o + j, none⟩ = some y) (ho : ∀ y ∈ ys, y.oneCell' = true) (hm : n + m ≤ 1000000) (hb : base ≤ W.heap.size) :
    ∃ v' w', (Builtin.append_ #[S, S] S #[v, .slice (some ⟨b, o, none⟩) m c]).run Try.prog W = .ok v' w' ∧ w'.ownsRow base T 2 v' (n + m) (xs ++ ys) ∧ W.grownBy w' v.ownBlock ∧ (v'.ownBlock = v.ownBlock ∨ v'.ownBlock = some W.heap.size) := by
  obtain ⟨i0, hi, hz0, hz1, hz2⟩ := info_parts hI
  obtain ⟨v', w', h1, h2, h3, _, h5⟩ := run_append_own_at (P := Try.prog) W base S S T i0 z 2 bytes hU hi hz0 hz1 hz2 hz (by decide) v n xs hown ⟨b, o, none⟩ m c ys hy (fun j y h => by rw [Addr.add_mid]; exact hc j y h) ho (by simp [maxLen]; omega) (Nat.le_trans (Nat.mul_le_mul hm hby2) (by decide)) hb
  exact ⟨v', w', h1, h2, h3, h5⟩
theorem isAggC (w : World) : (isAgg 30).run Try.prog w = .ok true w := by kernel_rfl
theorem cellsC : Try.prog.cellsOf 30 = 4 := by kernel_rfl
/-- Four cells of a struct. -/
def Four (w : World) (g : Nat) (a b c d : Value) : Prop := w.cell? ⟨g, 0, none⟩ = some a ∧ w.cell? ⟨g, 1, none⟩ = some b ∧ w.cell? ⟨g, 2, none⟩ = some c ∧ w.cell? ⟨g, 3, none⟩ = some d
theorem Blk.four {w : World} {g : Nat} {T : TypeId} {a b c d : Value} (h : Blk w g T #[a, b, c, d]) : Four w g a b c d := ⟨by rw [h.cell]; rfl, by rw [h.cell]; rfl, by rw [h.cell]; rfl, by rw [h.cell]; rfl⟩
theorem load_four (w : World) (g : Nat) {a b c d : Value} (h : Four w g a b c d) : (loadCells ⟨g, 0, none⟩ 4).run Try.prog w = .ok #[a, b, c, d] w := by
  have e : ∀ k, (⟨g, 0, none⟩ : Addr).add k = ⟨g, k, none⟩ := fun k => by rw [Addr.add_mid, Nat.zero_add]
  simp [loadCells, loadCellsFrom, h.1, h.2.1, h.2.2.1, h.2.2.2, Result.andThen, e]
theorem results_c1 {fn : Func} {s : Tmp} (h : fn.results = #[.cell s 30]) (tmps : Array Value) (w : World) (g : Nat) (h4 : tmps[s]?.getD undef = .pointer (some ⟨g, 0, none⟩)) {a b c d : Value} (hf : Four w g a b c d) :
    (results fn tmps).run Try.prog w = .ok (.agg #[a, b, c, d]) w := by
  simp [results, h, h4, loadVar, isAggC, asAddr, load_four w g hf, Result.andThen]
theorem results_c2 {fn : Func} {s s5 : Tmp} (h : fn.results = #[.cell s 30, .tmp s5]) (tmps : Array Value) (w : World) (g : Nat) (h4 : tmps[s]?.getD undef = .pointer (some ⟨g, 0, none⟩)) {x : Value} (h5 : tmps[s5]?.getD undef = x) {a b c d : Value} (hf : Four w g a b c d) :
    (results fn tmps).run Try.prog w = .ok (.tuple #[.agg #[a, b, c, d], x]) w := by
  simp [results, h, h4, h5, loadVar, isAggC, asAddr, load_four w g hf, Result.andThen]
theorem results_c3 {fn : Func} {s s5 s6 : Tmp} (h : fn.results = #[.cell s 30, .tmp s5, .tmp s6]) (tmps : Array Value) (w : World) (g : Nat) (h4 : tmps[s]?.getD undef = .pointer (some ⟨g, 0, none⟩)) {x y : Value} (h5 : tmps[s5]?.getD undef = x) (h6 : tmps[s6]?.getD undef = y) {a b c d : Value} (hf : Four w g a b c d) :
    (results fn tmps).run Try.prog w = .ok (.tuple #[.agg #[a, b, c, d], x, y]) w := by
  simp [results, h, h4, h5, h6, loadVar, isAggC, asAddr, load_four w g hf, Result.andThen]
set_option maxHeartbeats 400000 in
theorem rcnew_any (n : Int) (w : World) :
    Calls Try.prog 17 #[.int .i64 n] w fun e w' => e = .returned (.agg #[.int .i64 (sizeOfC n : Int), .slice none 0 0, .slice none 0 0, .int .i64 0]) ∧ Below w.heap.size w w' := by
  obtain ⟨R, hR⟩ : ∃ R : Nat, sizeOfC n = R := ⟨_, rfl⟩
  have hRi : ((R : Nat) : Int) = min (max n 0) 64 := by rw [← hR]; unfold sizeOfC; omega
  rw [hR]
  have HRI := Lib.hid hRi
  clear hRi hR
  go_enter Try.func17, Try.ntmps17
  go_wp2_with fail
  rw [← HRI.out]
  have q := Blk.new w 30 #[.int .i64 (R : Int), .slice none 0 0, .slice none 0 0, .int .i64 0]
  exact bodyPost_ret (results_c1 rfl _ _ _ rfl q.four) rfl ⟨rfl, ((Bl.start w).alloc _).1⟩
set_option maxHeartbeats 400000 in
theorem rcoften_any (z : Int) (vA : Value) (vC : Value) (cs : Counts) (ak : Int) (key : ByteArray) (w : World) (hC : Rp w vC (pC cs)) (hl : cs.length ≤ 100000) :
    Calls Try.prog 28 #[.agg #[.int .i64 z, vA, vC, .int .i64 ak], .string key] w fun e w' => e = .returned (.int .i64 (cntAt cs key : Int)) ∧ Below w.heap.size w w' := by
  obtain ⟨A, c, rfl, hT, _, _⟩ := hC
  rw [pC_length]
  have hb : Bl w.heap.size w (w.alloc (.cells #[.int .i64 z, vA, .slice A cs.length c, .int .i64 ak] 30)) := (Bl.start w).alloc _
  have HB := Lib.hid hb
  have HT := Lib.hid (hT.below hb.1)
  clear hb hT
  go_enter Try.func28, Try.ntmps28
  go_wp2_with fail
  go_loopw [5] (fun vi wr => ∃ k : Nat, vi = .int .i64 (k : Int) ∧ k ≤ cs.length ∧ Hid (∀ p ∈ cs.take k, ¬ p.1 = key) ∧ wr = w.alloc (.cells #[.int .i64 z, vA, .slice A cs.length c, .int .i64 ak] 30)) (fun vi _ => cs.length - (intOf vi).toNat)
  case atStart => exact ⟨0, rfl, Nat.zero_le _, Lib.hid (by simp), rfl⟩
  case round =>
    obtain ⟨k, rfl, hk, HN, rfl⟩ := hrel
    by_cases hlt : k < cs.length
    · obtain ⟨⟨s, n⟩, hx⟩ : ∃ x, cs[k]? = some x := ⟨_, List.getElem?_eq_getElem hlt⟩
      obtain ⟨b, o, rfl, hbl, d0, d1⟩ := HT.out.at_ k _ (pC_at hx)
      simp only at d0 d1
      have hne : b ≠ w.heap.size ∨ b = w.heap.size := by omega
      have hst : cs.take (k + 1) = cs.take k ++ [(s, n)] := by rw [List.take_add_one, hx]; rfl
      have i1 : (k : Int) < (cs.length : Int) := by omega
      have wk : IntKind.i64.wrap ((k : Int) + 1) = (k : Int) + 1 := IntWalk.i64_in _ (by omega)
      have HST := Lib.hid hst
      have HX := Lib.hid hx
      clear hst hx hne
      by_cases hs : s = key
      · have hbe : (s.toList == key.toList) = true := by rw [bytes_eq]; simp [hs]
        have HS := Lib.hid hs
        clear hs
        go_wp2_with fail
        go_ret
        refine ⟨ret_int ?_, HB.out.1⟩
        unfold cntAt
        have h1 : cs = cs.take k ++ (s, n) :: cs.drop (k + 1) := by
          have := (List.getElem?_eq_some_iff.1 HX.out).2
          rw [← this]
          simp
        rw [h1, List.find?_append, List.find?_eq_none.2 (fun p hp => by simpa using HN.out p hp), Option.none_or, List.find?_cons_of_pos (by simpa using HS.out)]
        rfl
      · have hbe : (s.toList == key.toList) = false := by rw [bytes_eq]; simp [hs]
        have HS := Lib.hid hs
        clear hs
        go_wp2_with fail
        refine ⟨⟨k + 1, by go_num, by omega, Lib.hid ?_, trivial⟩, by simp [intOf]; omega⟩
        intro p hp
        rw [HST.out] at hp
        rcases List.mem_append.1 hp with hp | hp
        · exact HN.out p hp
        · obtain rfl := List.mem_singleton.1 hp
          exact HS.out
    · obtain rfl : k = cs.length := by omega
      go_wp2_with fail
      go_ret
      refine ⟨ret_int ?_, HB.out.1⟩
      have h1 := HN.out
      rw [List.take_length] at h1
      unfold cntAt
      rw [List.find?_eq_none.2 (fun p hp => by simpa using h1 p hp)]
      rfl
set_option maxHeartbeats 400000 in
theorem rcfind_any (z : Int) (vA : Value) (vC : Value) (ts : Things) (ak : Int) (key : ByteArray) (w : World) (hC : Rp w vA (pT ts)) (hl : ts.length ≤ 1000) :
    Calls Try.prog 46 #[.agg #[.int .i64 z, vA, vC, .int .i64 ak], .string key] w fun e w' => e = .returned (.int .i64 (placeOf ts key)) ∧ Below w.heap.size w w' := by
  obtain ⟨A, c, rfl, hT, _, _⟩ := hC
  rw [pT_length]
  have hb : Bl w.heap.size w (w.alloc (.cells #[.int .i64 z, .slice A ts.length c, vC, .int .i64 ak] 30)) := (Bl.start w).alloc _
  have HB := Lib.hid hb
  have HT := Lib.hid (hT.below hb.1)
  clear hb hT
  go_enter Try.func46, Try.ntmps46
  go_wp2_with fail
  go_loopw [5] (fun vi wr => ∃ k : Nat, vi = .int .i64 (k : Int) ∧ k ≤ ts.length ∧ Hid (∀ (j : Nat) (t : ByteArray × ByteArray), j < k → ts[j]? = some t → t.1 ≠ key) ∧ wr = w.alloc (.cells #[.int .i64 z, .slice A ts.length c, vC, .int .i64 ak] 30)) (fun vi _ => ts.length - (intOf vi).toNat)
  case atStart => exact ⟨0, rfl, Nat.zero_le _, Lib.hid (fun j t h => absurd h (by omega)), rfl⟩
  case round =>
    obtain ⟨k, rfl, hk, HN, rfl⟩ := hrel
    by_cases hlt : k < ts.length
    · obtain ⟨⟨s, n⟩, hx⟩ : ∃ x, ts[k]? = some x := ⟨_, List.getElem?_eq_getElem hlt⟩
      obtain ⟨b, o, rfl, hbl, d0, d1⟩ := HT.out.at_ k _ (pT_at hx)
      simp only at d0 d1
      have i1 : (k : Int) < (ts.length : Int) := by omega
      have wk : IntKind.i64.wrap ((k : Int) + 1) = (k : Int) + 1 := IntWalk.i64_in _ (by omega)
      have HX := Lib.hid hx
      clear hx
      by_cases hs : s = key
      · have hbe : (s.toList == key.toList) = true := by rw [bytes_eq]; simp [hs]
        have HS := Lib.hid hs
        clear hs
        go_wp2_with fail
        go_ret
        exact ⟨ret_int (placeOf_hit HX.out HS.out HN.out).symm, HB.out.1⟩
      · have hbe : (s.toList == key.toList) = false := by rw [bytes_eq]; simp [hs]
        have HS := Lib.hid hs
        clear hs
        go_wp2_with fail
        refine ⟨⟨k + 1, by go_num, by omega, Lib.hid ?_, trivial⟩, by simp [intOf]; omega⟩
        intro j t hj ht
        rcases Nat.lt_or_ge j k with h | h
        · exact HN.out j t h ht
        · obtain rfl : j = k := by omega
          rw [HX.out] at ht
          cases ht
          exact HS.out
    · obtain rfl : k = ts.length := by omega
      go_wp2_with fail
      go_ret
      exact ⟨ret_int (placeOf_miss (fun j t ht => HN.out j t (List.getElem?_eq_some_iff.1 ht).1 ht)).symm, HB.out.1⟩
end Go.Proofs.Ytplahkhohhbgaaa
