/-
  guillocheref15.SameInts, guillocheref05.SameChanges, guillocheref16.SameNotice: of what is alike.
-/
import Derived.Test.YtjladlniilacjaaFeeRf1
namespace Go.Proofs.Ytjladlniilacjaa
open Go.RowKit Go.Proofs.Fee
set_option linter.unusedVariables false
set_option linter.unusedSimpArgs false
def Tt (_ : Nat) : Prop := True
theorem Sh.one {N : Nat → Prop} {w : World} {A : Option Addr} {xs : List Value} (h : Sh N w A xs) {k : Nat} {x : Value} (hk : xs[k]? = some x) : ∃ b o, A = some ⟨b, o, none⟩ ∧ ∀ (j : Nat) (x : Value), xs[j]? = some x → w.cell? ⟨b, o + j, none⟩ = some x := by
  rcases h with h | ⟨b, o, h1, _, _, h2⟩
  · rw [h] at hk; simp at hk
  · exact ⟨b, o, h1, h2⟩
set_option maxRecDepth 100000 in
set_option maxHeartbeats 1000000 in
theorem sameInts_eq (w : World) (A B : Option Addr) (ca cb : Nat) (l : List Int) (hl : l.length ≤ 100000) (hA : Sh Tt w A (l.map (Value.int .i64))) (hB : Sh Tt w B (l.map (Value.int .i64))) :
    Calls Try.prog 33 #[.slice A l.length ca, .slice B l.length cb] w fun e w' => e = .returned (.bool true) ∧ Below w.heap.size w w' := by
  have HA := Lib.hid hA
  have HB := Lib.hid hB
  clear hA hB
  go_enter Try.func33, Try.ntmps33
  go_wp2_with fail
  go_loopw [5] (fun vi wr => ∃ k q : Nat, vi = .int .i64 (k : Int) ∧ k ≤ l.length ∧ wr = w.drewN q) (fun vi _ => l.length - (intOf vi).toNat)
  case atStart => exact ⟨0, 0, rfl, Nat.zero_le _, rfl⟩
  case round =>
    obtain ⟨k, q, rfl, hk, rfl⟩ := hrel
    by_cases hlt : k < l.length
    · obtain ⟨x, hx⟩ : ∃ x, l[k]? = some x := ⟨_, List.getElem?_eq_getElem hlt⟩
      have hm : (l.map (Value.int .i64))[k]? = some (.int .i64 x) := by rw [List.getElem?_map, hx]; rfl
      obtain ⟨b, o, rfl, h1⟩ := HA.out.one hm
      obtain ⟨b', o', rfl, h2⟩ := HB.out.one hm
      have d1 := h1 k _ hm
      have d2 := h2 k _ hm
      have i1 : (k : Int) < (l.length : Int) := by omega
      have wk : IntKind.i64.wrap ((k : Int) + 1) = (k : Int) + 1 := IntWalk.i64_in _ (by omega)
      clear h1 h2 hm hx
      go_wp2_with fail
      go_quiet (fail)
      go_wp2_with fail
      exact ⟨⟨k + 1, q + nq, by go_num, by omega, rfl⟩, by simp [intOf]; omega⟩
    · obtain rfl : k = l.length := by omega
      go_wp2_with fail
      go_ret
      exact ⟨rfl, ((Bl.start w).drewN _).1⟩
theorem flatC_at : ∀ (l : List Chg) (j : Nat) (c : Chg), l[j]? = some c → (flatC l)[j * 3]? = some (.string c.k) ∧ (flatC l)[j * 3 + 1]? = some (.string c.v) ∧ (flatC l)[j * 3 + 2]? = some (.bool c.gone)
  | [], j, s, h => by simp at h
  | x :: r, 0, s, h => by
    simp only [List.getElem?_cons_zero, Option.some.injEq] at h
    subst h
    exact ⟨rfl, rfl, rfl⟩
  | x :: r, j + 1, s, h => by
    have := flatC_at r j s (by simpa using h)
    have e : ∀ k, (flatC (x :: r))[(j + 1) * 3 + k]? = (flatC r)[j * 3 + k]? := fun k => by
      show ([_, _, _] ++ flatC r : List Value)[(j + 1) * 3 + k]? = _
      rw [List.getElem?_append_right (by simp; omega)]
      congr 1
      simp
      omega
    exact ⟨(e 0).trans this.1, (e 1).trans this.2.1, (e 2).trans this.2.2⟩
theorem Chs.at_ {w : World} {v : Value} {l : List Chg} (h : Chs w v l) {k : Nat} {c : Chg} (hk : l[k]? = some c) : ∃ g cap, v = .slice (some ⟨g, 0, none⟩) l.length cap ∧ w.cell? ⟨g, k * 3, none⟩ = some (.string c.k) ∧ w.cell? ⟨g, k * 3 + 1, none⟩ = some (.string c.v) ∧ w.cell? ⟨g, k * 3 + 2, none⟩ = some (.bool c.gone) := by
  rcases h with ⟨_, h⟩ | ⟨g, cap, cur, h1, _, h3, h4⟩
  · rw [h] at hk; simp at hk
  · have hl := (List.getElem?_eq_some_iff.1 hk).1
    obtain ⟨e0, e1, e2⟩ := flatC_at l k c hk
    rw [← h4, List.getElem?_take_of_lt (by omega)] at e0 e1 e2
    exact ⟨g, cap, h1, by rw [h3.cell, ← Array.getElem?_toList]; exact e0, by rw [h3.cell, ← Array.getElem?_toList]; exact e1, by rw [h3.cell, ← Array.getElem?_toList]; exact e2⟩
theorem Chs.len {w : World} {A : Option Addr} {n c : Nat} {l : List Chg} (h : Chs w (.slice A n c) l) : n = l.length := by
  rcases h with ⟨h, h'⟩ | ⟨g, cap, cur, h1, _⟩
  · cases h; rw [h']; rfl
  · cases h1; rfl
set_option maxRecDepth 100000 in
set_option maxHeartbeats 1000000 in
theorem sameChanges_eq (w : World) (A B : Option Addr) (na nb ca cb : Nat) (l : List Chg) (hl : l.length ≤ 100000) (hA : Chs w (.slice A na ca) l) (hB : Chs w (.slice B nb cb) l) :
    Calls Try.prog 60 #[.slice A na ca, .slice B nb cb] w fun e w' => e = .returned (.bool true) ∧ Below w.heap.size w w' := by
  obtain rfl := hA.len
  obtain rfl := hB.len
  have HA := Lib.hid hA
  have HB := Lib.hid hB
  clear hA hB
  go_enter Try.func60, Try.ntmps60
  go_wp2_with fail
  go_loopw [5] (fun vi wr => ∃ k q : Nat, vi = .int .i64 (k : Int) ∧ k ≤ l.length ∧ wr = w.drewN q) (fun vi _ => l.length - (intOf vi).toNat)
  case atStart => exact ⟨0, 0, rfl, Nat.zero_le _, rfl⟩
  case round =>
    obtain ⟨k, q, rfl, hk, rfl⟩ := hrel
    by_cases hlt : k < l.length
    · obtain ⟨x, hx⟩ : ∃ x, l[k]? = some x := ⟨_, List.getElem?_eq_getElem hlt⟩
      obtain ⟨g, cap, hv, d0, d1, d2⟩ := HA.out.at_ hx
      cases hv
      obtain ⟨g', cap', hv', d0', d1', d2'⟩ := HB.out.at_ hx
      cases hv'
      obtain ⟨xk, xv, xg⟩ := x
      simp only at d0 d1 d2 d0' d1' d2'
      have i1 : (k : Int) < (l.length : Int) := by omega
      have wk : IntKind.i64.wrap ((k : Int) + 1) = (k : Int) + 1 := IntWalk.i64_in _ (by omega)
      clear hx
      go_wp2_with fail
      go_quiet (fail)
      go_wp2_with fail
      exact ⟨⟨k + 1, q + nq, by go_num, by omega, rfl⟩, by simp [intOf]; omega⟩
    · obtain rfl : k = l.length := by omega
      go_wp2_with fail
      go_ret
      exact ⟨rfl, ((Bl.start w).drewN _).1⟩
set_option maxRecDepth 100000 in
set_option maxHeartbeats 1000000 in
theorem sameNotice_eq (w : World) (n : Ntc) (A B : Option Addr) (na nb ca cb : Nat) (hl : n.chs.length ≤ 100000) (hA : Chs w (.slice A na ca) n.chs) (hB : Chs w (.slice B nb cb) n.chs) :
    Calls Try.prog 31 #[.agg #[.int .i64 n.ses, .int .i64 n.err, .int .i64 n.block, .string n.root, .slice A na ca], .agg #[.int .i64 n.ses, .int .i64 n.err, .int .i64 n.block, .string n.root, .slice B nb cb]] w fun e w' => e = .returned (.bool true) ∧ Below w.heap.size w w' := by
  have b0 := ((Bl.start w).alloc (.cells #[.int .i64 n.ses, .int .i64 n.err, .int .i64 n.block, .string n.root, .slice A na ca] 63)).alloc (.cells #[.int .i64 n.ses, .int .i64 n.err, .int .i64 n.block, .string n.root, .slice B nb cb] 63)
  have SC := Lib.hid (sameChanges_eq _ A B na nb ca cb n.chs hl (hA.below b0.1) (hB.below b0.1))
  have B0 := Lib.hid b0
  clear hA hB b0
  obtain ⟨ns, ne, nb', nr, nc⟩ := n
  simp only at SC B0 ⊢
  go_enter Try.func31, Try.ntmps31
  go_wp2_with fail
  refine SC.out.mono ?_
  rintro e w2 ⟨rfl, hb⟩
  have B2 := Lib.hid (B0.out.call hb)
  clear hb
  go_wp2_with fail
  go_ret
  exact ⟨rfl, B2.out.1⟩
end Go.Proofs.Ytjladlniilacjaa
