/-
  A law's acts for feed, opened; whether they are few.
-/
import Derived.Test.YtjladlniilacjaaArgs
import Derived.Test.YtjladlniilacjaaFeeDo
import Derived.Lib.SmallJoins
import Derived.Deep.Strs
namespace Go.Proofs.Fee
instance : Inhabited Deed := ⟨⟨0, 0, 0, ⟨#[]⟩⟩⟩
def Deed.wf (a : Deed) : Prop := (Lit.int .i64 a.s).wf = true
def ffewF (l : List Deed) : Bool := decide (l.length ≤ 60 ∧ ∀ a ∈ l, a.r.size ≤ 50)
end Go.Proofs.Fee
namespace Go.Proofs.Ytjladlniilacjaa
open Go.RowKit Go.ChangeShapes Go.WideShapes Go.Proofs.Fee
set_option linter.unusedVariables false
set_option linter.unusedSimpArgs false
/-- Acts that lie in memory. -/
structure ActAt (w : World) (b o : Nat) (a : Deed) : Prop where
  c0 : w.cell? ⟨b, o, none⟩ = some (.int .i64 a.k)
  c1 : w.cell? ⟨b, o + 1, none⟩ = some (.int .i64 a.s)
  c2 : w.cell? ⟨b, o + 2, none⟩ = some (.int .i64 a.b)
  c3 : w.cell? ⟨b, o + 3, none⟩ = some (.string a.r)
theorem ActAt.below {w w' : World} {b o : Nat} {a : Deed} (h : ActAt w b o a) (hb : b < w.heap.size) (k : Below w.heap.size w w') : ActAt w' b o a :=
  ⟨(k.cell (p := ⟨b, _, none⟩) hb).trans h.c0, (k.cell (p := ⟨b, _, none⟩) hb).trans h.c1, (k.cell (p := ⟨b, _, none⟩) hb).trans h.c2, (k.cell (p := ⟨b, _, none⟩) hb).trans h.c3⟩
def Lk (w : World) (A : Option Addr) (l : List Deed) : Prop := l = [] ∨ ∃ b o, A = some ⟨b, o, none⟩ ∧ b < w.heap.size ∧ ∀ j a, l[j]? = some a → ActAt w b (o + j * 4) a
theorem Lk.below {w w' : World} {A : Option Addr} {l : List Deed} (h : Lk w A l) (k : Below w.heap.size w w') : Lk w' A l := by
  rcases h with h | ⟨b, o, rfl, hb, hc⟩
  · exact .inl h
  · exact .inr ⟨b, o, rfl, Nat.lt_of_lt_of_le hb k.size, fun j a ha => (hc j a ha).below hb k⟩
theorem Lk.at_ {w : World} {A : Option Addr} {l : List Deed} (h : Lk w A l) (k : Nat) (a : Deed) (ha : l[k]? = some a) : ∃ b o, A = some ⟨b, o, none⟩ ∧ b < w.heap.size ∧ ActAt w b (o + k * 4) a := by
  rcases h with h | ⟨b, o, h1, h2, h3⟩
  · subst h; simp at ha
  · exact ⟨b, o, h1, h2, h3 k a ha⟩
theorem list4 {α : Type} {cs : List α} (h : cs.length = 4) : ∃ c0 c1 c2 c3, cs = [c0, c1, c2, c3] := by
  match cs, h with
  | [c0, c1, c2, c3], _ => exact ⟨c0, c1, c2, c3, rfl⟩
theorem struct4 {H : Type} {enc : TypeId × Value → H} {P : Program} {w : World} {base : Nat} {spare : Nat → Bool} {held : Bool} {t : TypeId} {f0 f1 f2 f3 : Field} {fuel : Nat} {cs : List Value} {x : DataW H × List MemPlace} (ht : P.underlying t = some (.struct #[f0, f1, f2, f3])) (h : DataW.trod enc P w base spare held fuel t cs = some x) :
    ∃ y0 y1 y2 y3 n, x = (.agg [y0.1, y1.1, y2.1, y3.1], y0.2 ++ y1.2 ++ y2.2 ++ y3.2) ∧ DataW.trod enc P w base spare held n f0.type ((cs.drop f0.offset).take (P.cellsOf f0.type)) = some y0 ∧
      DataW.trod enc P w base spare held n f1.type ((cs.drop f1.offset).take (P.cellsOf f1.type)) = some y1 ∧ DataW.trod enc P w base spare held n f2.type ((cs.drop f2.offset).take (P.cellsOf f2.type)) = some y2 ∧
      DataW.trod enc P w base spare held n f3.type ((cs.drop f3.offset).take (P.cellsOf f3.type)) = some y3 := by
  obtain ⟨xs, n, _, rfl, hl, hlen, hf⟩ := DataW.trod_struct ht h
  obtain ⟨y0, y1, y2, y3, rfl⟩ := list4 (by simpa using hlen)
  exact ⟨y0, y1, y2, y3, n, by simp, by simpa using hf 0 f0 rfl, by simpa using hf 1 f1 rfl, by simpa using hf 2 f2 rfl, by simpa using hf 3 f3 rfl⟩
set_option maxRecDepth 100000 in
theorem arg_acts {H : Type} {enc : TypeId × Value → H} {W : World} {v : Value} {d : DataW H} {p : List MemPlace} (hv : Value.okWide Try.prog W .any 0 52 v) (h : DataW.Trod enc Try.prog W 0 (fun _ => true) true 52 v d p) :
    ∃ A c l, v = .slice A l.length c ∧ Lk W A l ∧ (∀ a ∈ l, a.wf) ∧ l.length ≤ maxLen := by
  obtain ⟨a0, len, cap, rfl⟩ := okWide_slice Try.underlying52 hv
  obtain ⟨fuel, hf⟩ := h
  have hC : Try.prog.cellsOf 68 = 4 := by kernel_rfl
  have hI : Try.prog.cellsOf 3 = 1 := by kernel_rfl
  have hS : Try.prog.cellsOf 9 = 1 := by kernel_rfl
  rcases Go.Deep.open_slice Try.underlying52 hf with ⟨hcs, hx⟩ | ⟨a, len', cap', m, n, D, Pl, hcs, _, hl, hm, hmm, hx, hall⟩
  · simp [Value.cells] at hcs
    obtain ⟨rfl, rfl, rfl⟩ := hcs
    exact ⟨none, 0, [], rfl, .inl rfl, (fun x h => by cases h), Nat.zero_le _⟩
  · simp [Value.cells] at hcs
    obtain ⟨rfl, rfl, rfl⟩ := hcs
    simp only [if_true] at hmm
    subst hmm
    have each : ∀ i, i < len → ∃ x : Deed, W.cell? (a.add (i * 4)) = some (.int .i64 x.k) ∧ W.cell? (a.add (i * 4 + 1)) = some (.int .i64 x.s) ∧ W.cell? (a.add (i * 4 + 2)) = some (.int .i64 x.b) ∧
        W.cell? (a.add (i * 4 + 3)) = some (.string x.r) ∧ x.wf := by
      intro i hi
      obtain ⟨cs', h1, h2⟩ := hall i (by omega)
      rw [hC] at h1
      obtain ⟨_, hlen, hc⟩ := World.cells?_some h1
      obtain ⟨v0, v1, v2, v3, rfl⟩ := list4 hlen
      obtain ⟨y0, y1, y2, y3, q, _, t0, t1, t2, t3⟩ := struct4 Try.underlying68 h2
      simp only [hI, hS, List.drop, List.take] at t0 t1 t2 t3
      obtain ⟨k, e0, _, w0⟩ := DataW.trod_int Try.underlying3 t0
      obtain ⟨s, e1, _, w1⟩ := DataW.trod_int Try.underlying3 t1
      obtain ⟨b, e2, _, w2⟩ := DataW.trod_int Try.underlying3 t2
      obtain ⟨r, e3, _, w3⟩ := DataW.trod_string Try.underlying9 t3
      cases e0; cases e1; cases e2; cases e3
      refine ⟨⟨k, s, b, r⟩, ?_, ?_, ?_, ?_, w1⟩
      · have := hc 0 (by omega); simpa [Addr.add_add] using this
      · have := hc 1 (by omega); simpa [Addr.add_add] using this
      · have := hc 2 (by omega); simpa [Addr.add_add] using this
      · have := hc 3 (by omega); simpa [Addr.add_add] using this
    obtain ⟨f, hfx⟩ := Go.Deep.choose_lt (α := Deed) each
    have hget : ∀ j x, ((List.range len).map f)[j]? = some x → j < len ∧ f j = x := by
      intro j x hx
      have hj : j < len := by have := (List.getElem?_eq_some_iff.1 hx).1; simpa using this
      rw [List.getElem?_map, List.getElem?_range hj] at hx
      exact ⟨hj, Option.some.inj hx⟩
    refine ⟨some a, _, (List.range len).map f, by simp; rfl, ?_, (fun x hx => ?_), by simp; omega⟩
    · rcases Nat.eq_zero_or_pos len with h0 | h0
      · subst h0; exact .inl rfl
      · have hc0 := (hfx 0 h0).1
        obtain ⟨b, o, rfl⟩ := spot_none (a := a) (by simpa using hc0)
        rw [Addr.add_mid] at hc0
        refine .inr ⟨b, o, rfl, ?_, fun j x hx => ?_⟩
        · rcases Nat.lt_or_ge b W.heap.size with h | h
          · exact h
          · simp [World.cell?, h] at hc0
        · obtain ⟨hj, rfl⟩ := hget j x hx
          obtain ⟨d0, d1, d2, d3, _⟩ := hfx j hj
          simp only [Addr.add_mid] at d0 d1 d2 d3
          exact ⟨d0, by rw [Nat.add_assoc]; exact d1, by rw [Nat.add_assoc]; exact d2, by rw [Nat.add_assoc]; exact d3⟩
    · obtain ⟨j, hj, rfl⟩ := List.mem_map.1 hx
      exact (hfx j (by simpa using hj)).2.2.2.2
set_option maxRecDepth 100000 in
set_option maxHeartbeats 1000000 in
theorem ffew_any (A : Option Addr) (c : Nat) (l : List Deed) (w : World) (hS : Lk w A l) :
    Calls Try.prog 27 #[.slice A l.length c] w fun e w' => e = .returned (.bool (ffewF l)) ∧ w = w' := by
  have HS := Lib.hid hS
  clear hS
  go_enter Try.func27, Try.ntmps27
  go_wp2_with fail
  go_loopw [3] (fun vi wr => ∃ k : Nat, vi = .int .i64 (k : Int) ∧ k ≤ l.length ∧ Hid (∀ (j : Nat) (a : Deed), j < k → l[j]? = some a → a.r.size ≤ 50) ∧ wr = w) (fun vi _ => l.length - (intOf vi).toNat)
  case atStart => exact ⟨0, rfl, Nat.zero_le _, Lib.hid (fun j a h => absurd h (by omega)), rfl⟩
  case round =>
    obtain ⟨k, rfl, hk, ht, rfl⟩ := hrel
    by_cases hlt : k < l.length
    · by_cases h100 : k ≤ 60
      · obtain ⟨a, ha⟩ : ∃ a, l[k]? = some a := ⟨_, List.getElem?_eq_getElem hlt⟩
        obtain ⟨b, o, rfl, _, HC⟩ := HS.out.at_ k a ha
        obtain ⟨c0, c1, c2, c3⟩ := HC
        have HA := Lib.hid ha
        have no : ¬ a.r.size ≤ 50 → false = ffewF l := fun hn => Eq.symm (decide_eq_false (fun h => hn (h.2 _ (List.mem_of_getElem? HA.out))))
        have NO := Lib.hid no
        have ok : a.r.size ≤ 50 → Hid (∀ (j : Nat) (u : Deed), j < k + 1 → l[j]? = some u → u.r.size ≤ 50) := fun hm => Lib.hid (fun j u hj hja => by
          rcases Nat.lt_or_ge j k with h | h
          · exact ht.out j u h hja
          · obtain rfl : j = k := by omega
            rw [HA.out] at hja
            cases hja
            exact hm)
        have OK := Lib.hid ok
        clear no ok ha
        obtain ⟨ak, asn, ab, s⟩ := a
        simp only at c0 c1 c2 c3
        have i1 : (k : Int) < (l.length : Int) := by omega
        have i2 : (k : Int) ≤ 60 := by omega
        by_cases hs : s.size ≤ 50
        · have i3 : ¬ (50 : Int) < (s.size : Int) := by omega
          have wk : IntKind.i64.wrap ((k : Int) + 1) = (k : Int) + 1 := IntWalk.i64_in _ (by omega)
          go_wp2_with fail
          exact ⟨⟨k + 1, by go_num, by omega, OK.out hs, trivial⟩, by simp [intOf]; omega⟩
        · have i3 : (50 : Int) < (s.size : Int) := by omega
          go_wp2_with fail
          go_ret
          exact ⟨ret_bool (NO.out (fun h => hs h)), rfl⟩
      · have i2 : ¬ (k : Int) ≤ 60 := by omega
        go_wp2_with fail
        go_ret
        exact ⟨ret_bool (by unfold ffewF; rw [decide_eq_decide]; constructor <;> intro h <;> omega), rfl⟩
    · obtain rfl : k = l.length := by omega
      go_wp2_with fail
      go_ret
      refine ⟨ret_bool ?_, rfl⟩
      unfold ffewF
      rw [decide_eq_decide]
      constructor
      · intro h
        refine ⟨by omega, fun a ha => ?_⟩
        obtain ⟨j, hj⟩ := List.getElem?_of_mem ha
        exact ht.out j a (List.getElem?_eq_some_iff.1 hj).1 hj
      · intro h
        omega
theorem ffewF_true {l : List Deed} (h : ffewF l = true) : l.length ≤ 60 ∧ ∀ a ∈ l, a.r.size ≤ 50 := of_decide_eq_true h
end Go.Proofs.Ytjladlniilacjaa
