/-
  Rows of strings; whether two are the same (guillocheref02.Same).
-/
import Derived.Test.YtplahkhohhbgaaaCore
import Derived.Maps.AppendAt
import Derived.OwnWalk
namespace Go.Proofs.Ytplahkhohhbgaaa
open Go.RowKit
set_option linter.unusedVariables false
set_option linter.unusedSimpArgs false
/-- A slice's address, where xs lie. -/
def Strs (w : World) (A : Option Addr) (xs : List ByteArray) : Prop := xs = [] ∨ ∃ b o, A = some ⟨b, o, none⟩ ∧ b < w.heap.size ∧ ∀ j x, xs[j]? = some x → w.cell? ⟨b, o + j, none⟩ = some (.string x)
theorem Strs.nil (w : World) (A : Option Addr) : Strs w A [] := .inl rfl
theorem Strs.below {w w' : World} {A : Option Addr} {xs : List ByteArray} (h : Strs w A xs) (k : Below w.heap.size w w') : Strs w' A xs := by
  rcases h with h | ⟨b, o, h1, h2, h3⟩
  · exact .inl h
  · exact .inr ⟨b, o, h1, Nat.lt_of_lt_of_le h2 k.size, fun j x hx => (k.cell (p := ⟨b, o + j, none⟩) h2).trans (h3 j x hx)⟩
theorem Strs.drewN {w : World} {A : Option Addr} {xs : List ByteArray} (h : Strs w A xs) (n : Nat) : Strs (w.drewN n) A xs := h
theorem Strs.at_ {w : World} {A : Option Addr} {xs : List ByteArray} (h : Strs w A xs) (k : Nat) (hk : k < xs.length) : ∃ b o, A = some ⟨b, o, none⟩ ∧ b < w.heap.size ∧ w.cell? ⟨b, o + k, none⟩ = some (.string xs[k]) := by
  rcases h with h | ⟨b, o, h1, h2, h3⟩
  · subst h; simp at hk
  · exact ⟨b, o, h1, h2, h3 k _ (List.getElem?_eq_getElem hk)⟩
theorem Strs.of_own {w : World} {base : Nat} {v : Value} {xs : List ByteArray} (h : w.ownsRow base 9 1 v xs.length (xs.map Value.string)) : ∃ A c, v = .slice A xs.length c ∧ xs.length ≤ c ∧ Strs w A xs := by
  rcases xs with _ | ⟨x, r⟩
  · obtain ⟨a, c, rfl⟩ : ∃ a c, v = .slice a 0 c := by
      rcases h.2 with ⟨rfl, h2⟩ | ⟨g, cap, cur, rfl, _⟩
      · exact ⟨none, 0, rfl⟩
      · exact ⟨_, cap, rfl⟩
    exact ⟨a, c, rfl, Nat.zero_le _, .inl rfl⟩
  · rcases h.2 with ⟨_, h2⟩ | ⟨g, cap, cur, rfl, hb, hg, hle, hcap, hs, ht⟩
    · simp at h2
    · refine ⟨_, _, rfl, hle, .inr ⟨g, 0, rfl, (Array.getElem?_eq_some_iff.1 hg).1, fun j y hy => ?_⟩⟩
      have hj : j < (x :: r).length := (List.getElem?_eq_some_iff.1 hy).1
      have h1 : (List.take ((x :: r).length * 1) cur.toList)[j]? = some (.string y) := by rw [ht, List.getElem?_map, hy]; rfl
      rw [List.getElem?_take_of_lt (by omega)] at h1
      simp only [World.cell?, hg, Nat.zero_add]
      simpa using h1
/-- A slice value, whose strings are xs. -/
def Sl (w : World) (v : Value) (xs : List ByteArray) : Prop := ∃ A c, v = .slice A xs.length c ∧ Strs w A xs ∧ (A = none → c = 0)
theorem Sl.nil (w : World) : Sl w (.slice none 0 0) [] := ⟨none, 0, rfl, .nil _ _, fun _ => rfl⟩
theorem Sl.below {w w' : World} {v : Value} {xs : List ByteArray} (h : Sl w v xs) (k : Below w.heap.size w w') : Sl w' v xs := by
  obtain ⟨A, c, h1, h2, h3⟩ := h
  exact ⟨A, c, h1, h2.below k, h3⟩
theorem Strs.grown {w w' : World} {A : Option Addr} {xs : List ByteArray} (h : Strs w A xs) {r : Option Nat} (k : w.grownBy w' r) {B : Nat} (hr : ∀ i, r = some i → B ≤ i) (hA : ∀ a, A = some a → a.block < B) : Strs w' A xs := by
  rcases h with h | ⟨b, o, h1, h2, h3⟩
  · exact .inl h
  · refine .inr ⟨b, o, h1, Nat.lt_of_lt_of_le h2 k.size, fun j x hx => ?_⟩
    have hb : b < B := hA _ h1
    rw [World.cell?_of_block (k.block b h2 (fun e => by have := hr b e.symm; omega))]
    exact h3 j x hx
/-- .. of a slice value that lies below B. -/
theorem Sl.grown {w w' : World} {v : Value} {xs : List ByteArray} (h : Sl w v xs) {r : Option Nat} (k : w.grownBy w' r) (hr : v.ownBlock = none ∨ v.ownBlock ≠ r ∨ r = none) : Sl w' v xs := by
  obtain ⟨A, c, h1, h2, h3⟩ := h
  refine ⟨A, c, h1, ?_, h3⟩
  rcases h2 with h | ⟨b, o, rfl, h4, h5⟩
  · exact .inl h
  · refine .inr ⟨b, o, rfl, Nat.lt_of_lt_of_le h4 k.size, fun j x hx => ?_⟩
    have hne : some b ≠ r := by
      subst h1
      rcases hr with h | h | h
      · cases h
      · exact h
      · rw [h]; simp
    rw [World.cell?_of_block (k.block b h4 hne)]
    exact h5 j x hx
theorem Sl.of_own {w : World} {base : Nat} {v : Value} {xs : List ByteArray} (h : w.ownsRow base 9 1 v xs.length (xs.map Value.string)) : Sl w v xs := by
  rcases h.2 with ⟨rfl, h2⟩ | ⟨g, cap, cur, rfl, hb, hg, hle, hcap, hs, ht⟩
  · obtain rfl := List.length_eq_zero_iff.1 h2
    exact Sl.nil w
  · refine ⟨_, _, rfl, .inr ⟨g, 0, rfl, (Array.getElem?_eq_some_iff.1 hg).1, fun j y hy => ?_⟩, fun h => (by cases h)⟩
    have hj : j < xs.length := (List.getElem?_eq_some_iff.1 hy).1
    have h1 : (List.take (xs.length * 1) cur.toList)[j]? = some (.string y) := by rw [ht, List.getElem?_map, hy]; rfl
    rw [List.getElem?_take_of_lt (by omega)] at h1
    simp only [World.cell?, hg, Nat.zero_add]
    simpa using h1
theorem infoString : (Try.prog.info? 9).map (fun i => (i.zero, i.size, i.bytes)) = some (some (.string ByteArray.empty), 1, 16) := by kernel_rfl
theorem append_strs (W : World) (base : Nat) (v u : Value) (xs ys : List ByteArray) (hown : W.ownsRow base 9 1 v xs.length (xs.map Value.string)) (hS : Sl W u ys) (hm : xs.length + ys.length ≤ 1000000) (hb : base ≤ W.heap.size) :
    ∃ v' w', (Builtin.append_ #[44, 44] 44 #[v, u]).run Try.prog W = .ok v' w' ∧ w'.ownsRow base 9 1 v' (xs ++ ys).length ((xs ++ ys).map Value.string) ∧ W.grownBy w' v.ownBlock ∧ (v'.ownBlock = v.ownBlock ∨ v'.ownBlock = some W.heap.size) := by
  obtain ⟨i0, hi, hz0, hz1, hz2⟩ := info_parts infoString
  obtain ⟨A, c, rfl, hS, hc⟩ := hS
  rcases A with _ | ad
  · obtain rfl := hc rfl
    obtain rfl : ys = [] := by
      rcases hS with h | ⟨b, o, h, _⟩
      · exact h
      · cases h
    exact ⟨v, W, run_append_owned_none (P := Try.prog) (w := W) base 44 44 9 i0 1 Try.underlying44 hi v xs.length _ hown, by simpa using hown, World.grownBy.refl W _, .inl rfl⟩
  · obtain ⟨v', w', h1, h2, h3, _, h5⟩ := run_append_own_at (P := Try.prog) W base 44 44 9 i0 (.string ByteArray.empty) 1 16 Try.underlying44 hi hz0 hz1 hz2 rfl (by decide) v xs.length _ hown ad ys.length c (ys.map Value.string) (by simp) (by
      intro j z hz
      rcases hS with h | ⟨b, o, h, _, h3⟩
      · subst h; simp at hz
      · cases h
        rw [List.getElem?_map] at hz
        rcases hy : ys[j]? with _ | y
        · rw [hy] at hz; cases hz
        · rw [hy] at hz
          cases hz
          rw [Addr.add_mid]
          exact h3 j y hy) (by
      intro z hz
      obtain ⟨y, _, rfl⟩ := List.mem_map.1 hz
      rfl) (by simp [maxLen]; omega) (by omega) hb
    exact ⟨v', w', h1, by simpa using h2, h3, h5⟩
/-- append of strings at an operation of a region that is walked in its order. -/
theorem wpList_append_strs {ops : Array Oper} {rest : List Oper} {o : Oper} {a : Act} {Q : Exit → Act → World → Prop} {W : World} (hg : Region.wanted o (yielded ops a.tmps) = true) (s x : Operand)
    (ho : o.op = .call { callee := .builtin .append, args := #[s, x], argTypes := #[44, 44] }) (hty : o.type = 44) (base : Nat) (v u : Value) (xs ys : List ByteArray) (hs : a.eval s = v) (hx : a.eval x = u)
    (hown : W.ownsRow base 9 1 v xs.length (xs.map Value.string)) (hS : Sl W u ys) (hm : xs.length + ys.length ≤ 1000000) (hb : base ≤ W.heap.size)
    (h : ∀ v' w', w'.ownsRow base 9 1 v' (xs ++ ys).length ((xs ++ ys).map Value.string) → W.grownBy w' v.ownBlock → (v'.ownBlock = v.ownBlock ∨ v'.ownBlock = some W.heap.size) → wpList Try.prog ops Q rest (a.put o.dst v') w') : wpList Try.prog ops Q (o :: rest) a W := by
  obtain ⟨v', w', h1, h2, h3, h4⟩ := append_strs W base v u xs ys hown hS hm hb
  unfold wpList
  rw [if_pos hg]
  left
  unfold Oper.wp execOp
  simp only [ho, hty, resolve, invoke, builtin, Sem.run_bind, Sem.run_pure, Result.andThen_ok, List.map_toArray, List.map_cons, List.map_nil, hs, hx, h1]
  exact h v' w' h2 h3 h4
/-- A row that was just laid empty. -/
theorem lit_row (W : World) : (W.alloc (.cells #[] 9)).ownsRow W.heap.size 9 1 (.slice (some ⟨W.heap.size, 0, none⟩) 0 0) ([] : List ByteArray).length (([] : List ByteArray).map Value.string) :=
  ⟨rfl, .inr ⟨W.heap.size, 0, #[], rfl, Nat.le_refl _, (by show (W.heap.push _)[W.heap.size]? = some _; simp), Nat.le_refl _, by simp [maxLen], rfl, rfl⟩⟩
/-- A row of one's own that grew. -/
theorem Bl.grownRow {B : Nat} {a b c : World} (h : Bl B a b) {base : Nat} {e : TypeId} {size n : Nat} {v : Value} {xs : List Value} (hown : b.ownsRow base e size v n xs) (hB : B ≤ base) (k : b.grownBy c v.ownBlock) : Bl B a c :=
  ⟨h.1.grown k h.2 (fun i hi => Nat.le_trans hB (hown.lt i hi).1), Nat.le_trans h.2 k.size⟩
/-- A slice of one string that was just laid. -/
theorem one_lit (W : World) (s : ByteArray) : Sl (W.alloc (.cells #[.string s] 9)) (.slice (some ⟨W.heap.size, 0, none⟩) 1 1) [s] :=
  ⟨_, 1, rfl, .inr ⟨W.heap.size, 0, rfl, by simp, fun j x hx => by
    obtain rfl : j = 0 := by have := (List.getElem?_eq_some_iff.1 hx).1; simpa using this
    simp at hx
    subst hx
    simp⟩, fun h => (by cases h)⟩
theorem take_same {α : Type} {xs ys : List α} {k : Nat} (h : xs.take k = ys.take k) (h1 : k < xs.length) (h2 : k < ys.length) (he : xs[k] = ys[k]) : xs.take (k + 1) = ys.take (k + 1) := by
  rw [List.take_succ_eq_append_getElem h1, List.take_succ_eq_append_getElem h2, h, he]
theorem bytes_eq (a b : ByteArray) : (a.toList == b.toList) = decide (a = b) := by
  rw [ByteArray.toList_eq, ByteArray.toList_eq]
  by_cases h : a = b
  · subst h; simp
  · have : a.data.toList ≠ b.data.toList := fun e => h (ByteArray.ext (Array.toList_inj.1 e))
    rw [decide_eq_false h, beq_eq_false_iff_ne.2 this]
set_option maxHeartbeats 1000000 in
theorem same_any (A B : Option Addr) (c d : Nat) (xs ys : List ByteArray) (w : World) (hA : Strs w A xs) (hB : Strs w B ys) (hn : xs.length ≤ 1000000) (hm : ys.length ≤ 1000000) :
    Calls Try.prog 24 #[.slice A xs.length c, .slice B ys.length d] w fun e w' => e = .returned (.bool (decide (xs = ys))) ∧ ∃ n, w' = w.drewN n := by
  by_cases hl : xs.length = ys.length
  · go_enter Try.func24, Try.ntmps24
    have HL := Lib.hid hl
    have HA := Lib.hid hA
    have HB := Lib.hid hB
    have hd : ((xs.length : Int) != (ys.length : Int)) = false := by simp [hl]
    clear hl hA hB
    go_wp2_with fail
    go_loopw [5] (fun vi wr => ∃ k q : Nat, vi = .int .i64 k ∧ k ≤ xs.length ∧ Hid (xs.take k = ys.take k) ∧ wr = w.drewN q) (fun vi _ => xs.length - (intOf vi).toNat)
    case atStart => exact ⟨0, 0, rfl, Nat.zero_le _, rfl, rfl⟩
    case round =>
      obtain ⟨k, q, rfl, hk, ht, rfl⟩ := hrel
      by_cases hlt : k < xs.length
      · have hlt2 : k < ys.length := by have := HL.out; omega
        obtain ⟨b1, o1, rfl, _, c1⟩ := HA.out.at_ k hlt
        obtain ⟨b2, o2, rfl, _, c2⟩ := HB.out.at_ k hlt2
        have i1 : (k : Int) < (xs.length : Int) := by omega
        have i2 : (k : Int) < (ys.length : Int) := by omega
        obtain ⟨X, hX⟩ : ∃ X, X = xs[k] := ⟨_, rfl⟩
        obtain ⟨Y, hY⟩ : ∃ Y, Y = ys[k] := ⟨_, rfl⟩
        rw [← hX] at c1
        rw [← hY] at c2
        have HX := Lib.hid hX
        have HY := Lib.hid hY
        clear hX hY
        by_cases he : X = Y
        · have hbe : (X.toList == Y.toList) = true := by rw [bytes_eq]; simp [he]
          have HE := Lib.hid he
          clear he
          go_wp2_with fail
          go_quiet (fail)
          go_wp2_with fail
          go_roundw
          case rel => exact ⟨k + 1, q + nq, by go_num, by omega, Lib.hid (take_same ht.out hlt hlt2 (by rw [← HX.out, ← HY.out, HE.out])), rfl⟩
          case measure => simp [intOf]; omega
        · have hbe : (X.toList == Y.toList) = false := by rw [bytes_eq]; simp [he]
          have HE := Lib.hid he
          clear he
          go_wp2_with fail
          go_quiet (fail)
          go_wp2_with fail
          go_ret
          refine ⟨ret_bool (Eq.symm (decide_eq_false (fun h => HE.out ?_))), q + nq, World.drewN_drewN _ _ _⟩
          rw [HX.out, HY.out]
          subst h
          rfl
      · have hk' : k = xs.length := by omega
        have HK := Lib.hid hk'
        clear hk'
        go_wp2_with fail
        go_ret
        refine ⟨ret_bool (Eq.symm (decide_eq_true ?_)), q, rfl⟩
        have := ht.out
        rw [HK.out, List.take_length, HL.out, List.take_length] at this
        exact this
  · have hd : ((xs.length : Int) != (ys.length : Int)) = true := by simp; omega
    have hne : decide (xs = ys) = false := decide_eq_false (fun e => hl (by rw [e]))
    have HN := Lib.hid hne
    clear hl hne
    go_enter Try.func24, Try.ntmps24
    go_wp2_with fail
    go_ret
    exact ⟨ret_bool (by rw [HN.out]), 0, rfl⟩
end Go.Proofs.Ytplahkhohhbgaaa
