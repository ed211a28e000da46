/-
  Whether changes, whether acts are few.
-/
import Derived.Test.YtdahhnefcageeaaMdlDo
namespace Go.Proofs.Ytdahhnefcageeaa
open Go.RowKit Go.Proofs.Mdl
set_option linter.unusedVariables false
set_option linter.unusedSimpArgs false
/-- A Boolean: where it is true, Q; nothing turns. -/
structure FewRes (Q : Prop) (w : World) (e : Ending) (w' : World) : Prop where
  out : ∃ b, e = .returned (.bool b) ∧ (b = true → Q) ∧ w' = w
set_option maxRecDepth 100000 in
set_option maxHeartbeats 2000000 in
theorem fewC_any {w : World} {v : Value} {cs : List Chg} (h : Cs w v cs) :
    Calls Try.prog 32 #[v] w (FewRes (cs.length ≤ 45) w) := by
  obtain ⟨A, c, rfl⟩ := h.shape
  obtain ⟨z, hz⟩ : ∃ z, z = cs.length := ⟨_, rfl⟩
  rw [← hz] at h ⊢
  have HN := Lib.hid hz
  have HE := Lib.hid h
  clear h hz
  go_enter Try.func32, Try.ntmps32
  go_wp2_with fail
  go_loopw [3] (fun vi wr => ∃ k : Nat, vi = .int .i64 (k : Int) ∧ k ≤ z ∧ k ≤ 46 ∧ Hid (wr = w)) (fun vi _ => 46 - (intOf vi).toNat)
  case atStart => exact ⟨0, rfl, Nat.zero_le _, Nat.zero_le _, Lib.hid rfl⟩
  case round =>
    obtain ⟨k, rfl, hk, h46, HW⟩ := hrel
    obtain rfl := HW.out
    clear HW
    by_cases hlt : k < z
    · by_cases h45 : k ≤ 45
      · obtain ⟨x, hx⟩ : ∃ x, cs[k]? = some x := ⟨_, List.getElem?_eq_getElem (by rw [← HN.out]; exact hlt)⟩
        obtain ⟨b, o, c', hv, hbl, d0, d1, d2⟩ := HE.out.at_ hx
        simp only [Value.slice.injEq] at hv
        obtain ⟨rfl, -, -⟩ := hv
        have i1 : (k : Int) < (z : Int) := by omega
        have i2 : (k : Int) ≤ 45 := by omega
        have wk : IntKind.i64.wrap ((k : Int) + 1) = (k : Int) + 1 := IntWalk.i64_in _ (by omega)
        clear hx
        go_wp2_with fail
        case roundEnd => exact ⟨⟨k + 1, rfl, hlt, by omega, Lib.hid trivial⟩, by simp [intOf]; omega⟩
        all_goals
          go_ret
          exact ⟨⟨false, rfl, (fun h => by cases h), rfl⟩⟩
      · have i1 : (k : Int) < (z : Int) := by omega
        have i2 : ¬ (k : Int) ≤ 45 := by omega
        have i3 : ¬ (z : Int) ≤ 45 := by omega
        go_wp2_with fail
        go_ret
        exact ⟨⟨false, rfl, (fun h => by cases h), rfl⟩⟩
    · have i1 : ¬ (k : Int) < (z : Int) := by omega
      go_wp2_with fail
      go_ret
      exact ⟨⟨decide ((z : Int) ≤ 45), rfl, (fun h => by have := of_decide_eq_true h; have := HN.out; omega), rfl⟩⟩
/-- Acts that lie in memory. -/
def ActAt (w : World) (b o : Nat) (a : Mdl.Act) : Prop := ∃ vc, w.cell? ⟨b, o, none⟩ = some (.int .i64 a.k) ∧ w.cell? ⟨b, o + 1, none⟩ = some vc ∧ w.cell? ⟨b, o + 2, none⟩ = some (.int .i64 a.n) ∧ Cs w vc a.c
theorem ActAt.below {w w' : World} {b o : Nat} {a : Mdl.Act} (h : ActAt w b o a) (hb : b < w.heap.size) (k : Below w.heap.size w w') : ActAt w' b o a := by
  obtain ⟨vc, h0, h1, h2, h3⟩ := h
  exact ⟨vc, (k.cell (p := ⟨b, _, none⟩) hb).trans h0, (k.cell (p := ⟨b, _, none⟩) hb).trans h1, (k.cell (p := ⟨b, _, none⟩) hb).trans h2, h3.below k⟩
def Lk (w : World) (A : Option Addr) (l : List Mdl.Act) : Prop := l = [] ∨ ∃ b o, A = some ⟨b, o, none⟩ ∧ b < w.heap.size ∧ ∀ j a, l[j]? = some a → ActAt w b (o + j * 3) a
theorem Lk.below {w w' : World} {A : Option Addr} {l : List Mdl.Act} (h : Lk w A l) (k : Below w.heap.size w w') : Lk w' A l := by
  rcases h with h | ⟨b, o, rfl, hb, hc⟩
  · exact .inl h
  · exact .inr ⟨b, o, rfl, Nat.lt_of_lt_of_le hb k.size, fun j a ha => (hc j a ha).below hb k⟩
theorem Lk.at_ {w : World} {A : Option Addr} {l : List Mdl.Act} (h : Lk w A l) (k : Nat) (a : Mdl.Act) (ha : l[k]? = some a) : ∃ b o, A = some ⟨b, o, none⟩ ∧ b < w.heap.size ∧ ActAt w b (o + k * 3) a := by
  rcases h with h | ⟨b, o, h1, h2, h3⟩
  · subst h; simp at ha
  · exact ⟨b, o, h1, h2, h3 k a ha⟩
set_option maxRecDepth 100000 in
set_option maxHeartbeats 2000000 in
theorem few_any {w : World} {A : Option Addr} {c : Nat} {l : List Mdl.Act} (h : Lk w A l) :
    Calls Try.prog 11 #[.slice A l.length c] w (FewRes (l.length ≤ 30 ∧ ∀ a ∈ l, a.c.length ≤ 45) w) := by
  obtain ⟨z, hz⟩ : ∃ z, z = l.length := ⟨_, rfl⟩
  rw [← hz]
  have HN := Lib.hid hz
  have HE := Lib.hid h
  clear h hz
  go_enter Try.func11, Try.ntmps11
  go_wp2_with fail
  go_loopw [3] (fun vi wr => ∃ k : Nat, vi = .int .i64 (k : Int) ∧ k ≤ z ∧ k ≤ 31 ∧ Hid (wr = w) ∧ Hid (∀ a ∈ l.take k, a.c.length ≤ 45)) (fun vi _ => 31 - (intOf vi).toNat)
  case atStart => exact ⟨0, rfl, Nat.zero_le _, Nat.zero_le _, Lib.hid rfl, Lib.hid (fun a ha => by cases ha)⟩
  case round =>
    obtain ⟨k, rfl, hk, h46, HW, HF⟩ := hrel
    obtain rfl := HW.out
    clear HW
    by_cases hlt : k < z
    · by_cases h45 : k ≤ 30
      · obtain ⟨x, hx⟩ : ∃ x, l[k]? = some x := ⟨_, List.getElem?_eq_getElem (by rw [← HN.out]; exact hlt)⟩
        obtain ⟨b, o, rfl, hbl, vc, d0, d1, d2, hcs⟩ := HE.out.at_ k x hx
        have FC := Lib.hid (fewC_any hcs)
        obtain ⟨A2, c2, rfl⟩ := hcs.shape
        have HX := Lib.hid hx
        have i1 : (k : Int) < (z : Int) := by omega
        have i2 : (k : Int) ≤ 30 := by omega
        have wk : IntKind.i64.wrap ((k : Int) + 1) = (k : Int) + 1 := IntWalk.i64_in _ (by omega)
        clear hx hcs
        go_upto_region 5 with (go_at_call 32; refine FC.out.mono ?_; rintro e w2 ⟨⟨bf, rfl, hbf, rfl⟩⟩; have HBF := Lib.hid hbf; clear hbf)
        cases bf with
        | true =>
          go_wp2_with fail
          refine ⟨⟨k + 1, rfl, hlt, by omega, Lib.hid trivial, Lib.hid (fun a ha => ?_)⟩, by simp [intOf]; omega⟩
          rw [List.take_add_one, HX.out, Option.toList_some] at ha
          rcases List.mem_append.1 ha with ha | ha
          · exact HF.out a ha
          · rw [List.mem_singleton.1 ha]; exact HBF.out rfl
        | false =>
          go_wp2_with fail
          go_ret
          exact ⟨⟨false, rfl, (fun h => by cases h), rfl⟩⟩
      · have i1 : (k : Int) < (z : Int) := by omega
        have i2 : ¬ (k : Int) ≤ 30 := by omega
        have i3 : ¬ (z : Int) ≤ 30 := by omega
        go_wp2_with fail
        go_ret
        exact ⟨⟨false, rfl, (fun h => by cases h), rfl⟩⟩
    · have i1 : ¬ (k : Int) < (z : Int) := by omega
      obtain rfl : k = z := by omega
      go_wp2_with fail
      go_ret
      refine ⟨⟨decide ((k : Int) ≤ 30), rfl, fun h => ⟨by have := of_decide_eq_true h; have := HN.out; omega, ?_⟩, rfl⟩⟩
      have := HF.out
      rwa [HN.out, List.take_length] at this
end Go.Proofs.Ytdahhnefcageeaa
