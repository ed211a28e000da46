/-
  Package canon: entries, and changes, in memory; what may be.
-/
import Derived.Test.YtdahhnefcageeaaRowK
import Derived.Test.YtdahhnefcageeaaMdlDiff
import Derived.Lib.Hide
import Derived.LoopIn
namespace Go.Proofs.Ytdahhnefcageeaa
open Go.RowKit Go.Proofs.Mdl
set_option linter.unusedVariables false
set_option linter.unusedSimpArgs false
def cellE (e : Ent) : List Value := [.string e.k, .string e.v]
def flatE (l : List Ent) : List Value := l.flatMap cellE
def cellC (c : Chg) : List Value := [.string c.k, .string c.v, .bool c.gone]
def flatC (l : List Chg) : List Value := l.flatMap cellC
theorem flatE_cons (e : Ent) (l : List Ent) : flatE (e :: l) = cellE e ++ flatE l := rfl
theorem flatC_cons (c : Chg) (l : List Chg) : flatC (c :: l) = cellC c ++ flatC l := rfl
theorem flatE_length (l : List Ent) : (flatE l).length = l.length * 2 := by
  induction l with
  | nil => rfl
  | cons a r ih => rw [flatE_cons, List.length_append, ih]; simp [cellE]; omega
theorem flatC_length (l : List Chg) : (flatC l).length = l.length * 3 := by
  induction l with
  | nil => rfl
  | cons a r ih => rw [flatC_cons, List.length_append, ih]; simp [cellC]; omega
theorem flatE_append (a b : List Ent) : flatE (a ++ b) = flatE a ++ flatE b := by simp [flatE, List.flatMap_append]
theorem flatC_append (a b : List Chg) : flatC (a ++ b) = flatC a ++ flatC b := by simp [flatC, List.flatMap_append]
theorem one_flatE (l : List Ent) : ∀ v ∈ flatE l, v.oneCell' = true := by
  intro v hv
  obtain ⟨e, _, hv⟩ := List.mem_flatMap.1 hv
  unfold cellE at hv
  simp only [List.mem_cons, List.not_mem_nil, or_false] at hv
  rcases hv with rfl | rfl <;> rfl
theorem one_flatC (l : List Chg) : ∀ v ∈ flatC l, v.oneCell' = true := by
  intro v hv
  obtain ⟨e, _, hv⟩ := List.mem_flatMap.1 hv
  unfold cellC at hv
  simp only [List.mem_cons, List.not_mem_nil, or_false] at hv
  rcases hv with rfl | rfl | rfl <;> rfl
theorem flatE_at : ∀ (l : List Ent) (j : Nat) (e : Ent), l[j]? = some e → (flatE l)[j * 2]? = some (.string e.k) ∧ (flatE l)[j * 2 + 1]? = some (.string e.v)
  | [], j, s, h => by simp at h
  | x :: r, 0, s, h => by
    simp only [List.getElem?_cons_zero, Option.some.injEq] at h
    subst h
    exact ⟨rfl, rfl⟩
  | x :: r, j + 1, s, h => by
    have := flatE_at r j s (by simpa using h)
    have e : ∀ k, (flatE (x :: r))[(j + 1) * 2 + k]? = (flatE r)[j * 2 + k]? := fun k => by
      rw [flatE_cons, List.getElem?_append_right (by simp [cellE]; omega)]
      congr 1
      simp [cellE]
      omega
    exact ⟨(e 0).trans this.1, (e 1).trans this.2⟩
theorem flatC_at : ∀ (l : List Chg) (j : Nat) (c : Chg), l[j]? = some c → (flatC l)[j * 3]? = some (.string c.k) ∧ (flatC l)[j * 3 + 1]? = some (.string c.v) ∧ (flatC l)[j * 3 + 2]? = some (.bool c.gone)
  | [], j, s, h => by simp at h
  | x :: r, 0, s, h => by
    simp only [List.getElem?_cons_zero, Option.some.injEq] at h
    subst h
    exact ⟨rfl, rfl, rfl⟩
  | x :: r, j + 1, s, h => by
    have := flatC_at r j s (by simpa using h)
    have e : ∀ k, (flatC (x :: r))[(j + 1) * 3 + k]? = (flatC r)[j * 3 + k]? := fun k => by
      rw [flatC_cons, List.getElem?_append_right (by simp [cellC]; omega)]
      congr 1
      simp [cellC]
      omega
    exact ⟨(e 0).trans this.1, (e 1).trans this.2.1, (e 2).trans this.2.2⟩
/-- What a slice of entries shows. -/
def Es (w : World) (v : Value) (l : List Ent) : Prop := ∃ A c, v = .slice A l.length c ∧ l.length ≤ c ∧ Vs w A (flatE l)
def Cs (w : World) (v : Value) (l : List Chg) : Prop := ∃ A c, v = .slice A l.length c ∧ l.length ≤ c ∧ Vs w A (flatC l)
section
variable {w w' : World} {v : Value}
theorem Es.below {l : List Ent} (h : Es w v l) (k : Below w.heap.size w w') : Es w' v l := by
  obtain ⟨A, c, h1, h2, h3⟩ := h
  exact ⟨A, c, h1, h2, h3.below k⟩
theorem Cs.below {l : List Chg} (h : Cs w v l) (k : Below w.heap.size w w') : Cs w' v l := by
  obtain ⟨A, c, h1, h2, h3⟩ := h
  exact ⟨A, c, h1, h2, h3.below k⟩
theorem Es.nil (w : World) : Es w (.slice none 0 0) [] := ⟨none, 0, rfl, Nat.le_refl _, .inl rfl⟩
theorem Cs.nil (w : World) : Cs w (.slice none 0 0) [] := ⟨none, 0, rfl, Nat.le_refl _, .inl rfl⟩
theorem Es.shape {l : List Ent} (h : Es w v l) : ∃ A c, v = .slice A l.length c := by
  obtain ⟨A, c, h1, _⟩ := h
  exact ⟨A, c, h1⟩
theorem Cs.shape {l : List Chg} (h : Cs w v l) : ∃ A c, v = .slice A l.length c := by
  obtain ⟨A, c, h1, _⟩ := h
  exact ⟨A, c, h1⟩
theorem Es.vs {A : Option Addr} {n c : Nat} {l : List Ent} (h : Es w (.slice A n c) l) : n = l.length ∧ l.length ≤ c ∧ Vs w A (flatE l) := by
  obtain ⟨A', c', e, h2, h3⟩ := h
  simp only [Value.slice.injEq] at e
  obtain ⟨rfl, rfl, rfl⟩ := e
  exact ⟨rfl, h2, h3⟩
theorem Cs.vs {A : Option Addr} {n c : Nat} {l : List Chg} (h : Cs w (.slice A n c) l) : n = l.length ∧ l.length ≤ c ∧ Vs w A (flatC l) := by
  obtain ⟨A', c', e, h2, h3⟩ := h
  simp only [Value.slice.injEq] at e
  obtain ⟨rfl, rfl, rfl⟩ := e
  exact ⟨rfl, h2, h3⟩
theorem Es.of_own {base : Nat} {T : TypeId} {l : List Ent} (h : w.ownsRow base T 2 v l.length (flatE l)) : Es w v l := Vs.of_own h (flatE_length l)
theorem Cs.of_own {base : Nat} {T : TypeId} {l : List Chg} (h : w.ownsRow base T 3 v l.length (flatC l)) : Cs w v l := Vs.of_own h (flatC_length l)
theorem Es.at_ {l : List Ent} (h : Es w v l) {k : Nat} {e : Ent} (hk : l[k]? = some e) : ∃ b o c, v = .slice (some ⟨b, o, none⟩) l.length c ∧ b < w.heap.size ∧ w.cell? ⟨b, o + k * 2, none⟩ = some (.string e.k) ∧ w.cell? ⟨b, o + k * 2 + 1, none⟩ = some (.string e.v) := by
  obtain ⟨A, c, h1, h2, h3⟩ := h
  obtain ⟨e0, e1⟩ := flatE_at l k e hk
  obtain ⟨b, o, rfl, hb, hc⟩ := h3.at_ _ _ e0
  exact ⟨b, o, c, h1, hb, hc _ _ e0, by have := hc _ _ e1; rwa [← Nat.add_assoc] at this⟩
theorem Cs.at_ {l : List Chg} (h : Cs w v l) {k : Nat} {e : Chg} (hk : l[k]? = some e) : ∃ b o c, v = .slice (some ⟨b, o, none⟩) l.length c ∧ b < w.heap.size ∧ w.cell? ⟨b, o + k * 3, none⟩ = some (.string e.k) ∧ w.cell? ⟨b, o + k * 3 + 1, none⟩ = some (.string e.v) ∧ w.cell? ⟨b, o + k * 3 + 2, none⟩ = some (.bool e.gone) := by
  obtain ⟨A, c, h1, h2, h3⟩ := h
  obtain ⟨e0, e1, e2⟩ := flatC_at l k e hk
  obtain ⟨b, o, rfl, hb, hc⟩ := h3.at_ _ _ e0
  exact ⟨b, o, c, h1, hb, hc _ _ e0, by have := hc _ _ e1; rwa [← Nat.add_assoc] at this, by have := hc _ _ e2; rwa [← Nat.add_assoc] at this⟩
end
/-- .. in blocks that N tells of. -/
def VsN (N : Nat → Prop) (w : World) (A : Option Addr) (xs : List Value) : Prop := xs = [] ∨ ∃ b o, A = some ⟨b, o, none⟩ ∧ N b ∧ b < w.heap.size ∧ ∀ j x, xs[j]? = some x → w.cell? ⟨b, o + j, none⟩ = some x
def EsN (N : Nat → Prop) (w : World) (v : Value) (l : List Ent) : Prop := ∃ A c, v = .slice A l.length c ∧ l.length ≤ c ∧ VsN N w A (flatE l)
def CsN (N : Nat → Prop) (w : World) (v : Value) (l : List Chg) : Prop := ∃ A c, v = .slice A l.length c ∧ l.length ≤ c ∧ VsN N w A (flatC l)
section
variable {N : Nat → Prop} {w w' : World} {A : Option Addr} {xs : List Value} {v : Value} {l : List Ent} {cs : List Chg}
theorem VsN.vs (h : VsN N w A xs) : Vs w A xs := by
  rcases h with h | ⟨b, o, h1, _, h2, h3⟩
  · exact .inl h
  · exact .inr ⟨b, o, h1, h2, h3⟩
theorem far_cell {S : Nat → Prop} (k : Far S w w') {p : Addr} (hp : p.block < w.heap.size) (hn : ¬ S p.block) : w'.cell? p = w.cell? p := by
  unfold World.cell?
  rw [k.block p.block hp hn]
theorem VsN.far {S : Nat → Prop} (h : VsN N w A xs) (k : Far S w w') (hS : ∀ b, N b → b < w.heap.size → ¬ S b) : VsN N w' A xs := by
  rcases h with h | ⟨b, o, h1, h2, h3, h4⟩
  · exact .inl h
  · exact .inr ⟨b, o, h1, h2, Nat.lt_of_lt_of_le h3 k.size, fun j x hx => (far_cell (p := ⟨b, _, none⟩) k h3 (hS b h2 h3)).trans (h4 j x hx)⟩
theorem VsN.mono {N' : Nat → Prop} (h : VsN N w A xs) (hN : ∀ b, N b → b < w.heap.size → N' b) : VsN N' w A xs := by
  rcases h with h | ⟨b, o, h1, h2, h3, h4⟩
  · exact .inl h
  · exact .inr ⟨b, o, h1, hN b h2 h3, h3, h4⟩
theorem VsN.of_own {base n k : Nat} {T : TypeId} (h : w.ownsRow base T k v n xs) (hx : xs.length = n * k) : ∃ A c, v = .slice A n c ∧ n ≤ c ∧ VsN (fun b => base ≤ b) w A xs := by
  rcases h.2 with ⟨rfl, h2⟩ | ⟨g, cap, cur, rfl, hb, hg, hle, hcap, hs, ht⟩
  · subst h2
    exact ⟨none, 0, rfl, Nat.le_refl _, .inl (by simpa using hx)⟩
  · refine ⟨_, cap, rfl, hle, .inr ⟨g, 0, rfl, hb, (Array.getElem?_eq_some_iff.1 hg).1, fun j x hj => ?_⟩⟩
    have hlt := (List.getElem?_eq_some_iff.1 hj).1
    rw [← ht, List.getElem?_take_of_lt (by omega)] at hj
    simp only [World.cell?, hg, Nat.zero_add]
    simpa using hj
theorem EsN.toEs (h : EsN N w v l) : Es w v l := by
  obtain ⟨A, c, h1, h2, h3⟩ := h
  exact ⟨A, c, h1, h2, h3.vs⟩
theorem CsN.toCs (h : CsN N w v cs) : Cs w v cs := by
  obtain ⟨A, c, h1, h2, h3⟩ := h
  exact ⟨A, c, h1, h2, h3.vs⟩
theorem EsN.far {S : Nat → Prop} (h : EsN N w v l) (k : Far S w w') (hS : ∀ b, N b → b < w.heap.size → ¬ S b) : EsN N w' v l := by
  obtain ⟨A, c, h1, h2, h3⟩ := h
  exact ⟨A, c, h1, h2, h3.far k hS⟩
theorem CsN.far {S : Nat → Prop} (h : CsN N w v cs) (k : Far S w w') (hS : ∀ b, N b → b < w.heap.size → ¬ S b) : CsN N w' v cs := by
  obtain ⟨A, c, h1, h2, h3⟩ := h
  exact ⟨A, c, h1, h2, h3.far k hS⟩
theorem EsN.mono {N' : Nat → Prop} (h : EsN N w v l) (hN : ∀ b, N b → b < w.heap.size → N' b) : EsN N' w v l := by
  obtain ⟨A, c, h1, h2, h3⟩ := h
  exact ⟨A, c, h1, h2, h3.mono hN⟩
theorem CsN.mono {N' : Nat → Prop} (h : CsN N w v cs) (hN : ∀ b, N b → b < w.heap.size → N' b) : CsN N' w v cs := by
  obtain ⟨A, c, h1, h2, h3⟩ := h
  exact ⟨A, c, h1, h2, h3.mono hN⟩
theorem EsN.below (h : EsN N w v l) (k : Below w.heap.size w w') : EsN N w' v l := h.far (far_of_below k) (fun _ _ _ h => h)
theorem CsN.below (h : CsN N w v cs) (k : Below w.heap.size w w') : CsN N w' v cs := h.far (far_of_below k) (fun _ _ _ h => h)
theorem EsN.nil (N : Nat → Prop) (w : World) : EsN N w (.slice none 0 0) [] := ⟨none, 0, rfl, Nat.le_refl _, .inl rfl⟩
theorem CsN.nil (N : Nat → Prop) (w : World) : CsN N w (.slice none 0 0) [] := ⟨none, 0, rfl, Nat.le_refl _, .inl rfl⟩
theorem EsN.of_own {base B : Nat} {T : TypeId} (h : w.ownsRow base T 2 v l.length (flatE l)) (hB : B ≤ base) : EsN (fun b => B ≤ b) w v l := by
  obtain ⟨A, c, h1, h2, h3⟩ := VsN.of_own h (flatE_length l)
  exact ⟨A, c, h1, h2, h3.mono (fun b h _ => Nat.le_trans hB h)⟩
theorem CsN.of_own {base B : Nat} {T : TypeId} (h : w.ownsRow base T 3 v cs.length (flatC cs)) (hB : B ≤ base) : CsN (fun b => B ≤ b) w v cs := by
  obtain ⟨A, c, h1, h2, h3⟩ := VsN.of_own h (flatC_length cs)
  exact ⟨A, c, h1, h2, h3.mono (fun b h _ => Nat.le_trans hB h)⟩
theorem Es.all (h : Es w v l) : EsN (fun _ => True) w v l := by
  obtain ⟨A, c, h1, h2, h3⟩ := h
  refine ⟨A, c, h1, h2, ?_⟩
  rcases h3 with h | ⟨b, o, h1, h2, h3⟩
  · exact .inl h
  · exact .inr ⟨b, o, h1, trivial, h2, h3⟩
theorem Cs.all (h : Cs w v cs) : CsN (fun _ => True) w v cs := by
  obtain ⟨A, c, h1, h2, h3⟩ := h
  refine ⟨A, c, h1, h2, ?_⟩
  rcases h3 with h | ⟨b, o, h1, h2, h3⟩
  · exact .inl h
  · exact .inr ⟨b, o, h1, trivial, h2, h3⟩
end
theorem toList_nil {k : ByteArray} : k.toList = [] ↔ k.size = 0 := by
  rw [Lib.toList_data]
  constructor
  · intro h
    show k.data.size = 0
    rw [← Array.length_toList, h]
    rfl
  · intro h
    exact List.length_eq_zero_iff.1 (by rw [Array.length_toList]; exact h)
theorem between_off {k : ByteArray} (n : Nat) (h : k.toList = []) : (decide (1 ≤ k.size) && decide (k.size ≤ n)) = false := by
  have := toList_nil.1 h
  simp [this]
theorem between_on {k : ByteArray} (n : Nat) (h : ¬ k.toList = []) : (decide (1 ≤ k.size) && decide (k.size ≤ n)) = (!k.toList.isEmpty && decide ((k.size : Int) ≤ (n : Int))) := by
  have h0 : ¬ k.size = 0 := fun e => h (toList_nil.2 e)
  have h1 : 1 ≤ k.size := by omega
  have h2 : k.toList.isEmpty = false := by cases hl : k.toList with | nil => exact absurd hl h | cons _ _ => rfl
  rw [h2]
  by_cases h3 : k.size ≤ n
  · simp [h1, h3, show (k.size : Int) ≤ (n : Int) by omega]
  · simp [h3, show ¬ (k.size : Int) ≤ (n : Int) by omega]
theorem keyMay_any (k : ByteArray) (w : World) : Calls Try.prog 64 #[.string k] w fun e w' => e = .returned (.bool (keyOk k)) ∧ w' = w := by
  obtain ⟨b, hb⟩ : ∃ b, b = keyOk k := ⟨_, rfl⟩
  rw [← hb]
  have HB := Lib.hid hb
  clear hb
  by_cases h : k.toList = []
  · have H := Lib.hid h
    go_enter Try.func64, Try.ntmps64
    go_wp2
    go_ret
    exact ⟨by rw [HB.out]; unfold keyOk; rw [between_off 6 H.out]; rfl, rfl⟩
  · have H := Lib.hid h
    go_enter Try.func64, Try.ntmps64
    go_wp2
    go_ret
    exact ⟨by rw [HB.out]; unfold keyOk; rw [between_on 6 H.out]; rfl, rfl⟩
theorem valMay_any (k : ByteArray) (w : World) : Calls Try.prog 65 #[.string k] w fun e w' => e = .returned (.bool (valOk k)) ∧ w' = w := by
  obtain ⟨b, hb⟩ : ∃ b, b = valOk k := ⟨_, rfl⟩
  rw [← hb]
  have HB := Lib.hid hb
  clear hb
  by_cases h : k.toList = []
  · have H := Lib.hid h
    go_enter Try.func65, Try.ntmps65
    go_wp2
    go_ret
    exact ⟨by rw [HB.out]; unfold valOk; rw [between_off 80 H.out]; rfl, rfl⟩
  · have H := Lib.hid h
    go_enter Try.func65, Try.ntmps65
    go_wp2
    go_ret
    exact ⟨by rw [HB.out]; unfold valOk; rw [between_on 80 H.out]; rfl, rfl⟩
theorem countMay_any (n : Nat) (w : World) : Calls Try.prog 54 #[.int .i64 (n : Int)] w fun e w' => e = .returned (.int .i64 (if 40 < n then 12 else 0)) ∧ w' = w := by
  by_cases h : 40 < n
  · have y : (40 : Int) < (n : Int) := by omega
    rw [if_pos h]
    clear h
    go_enter Try.func54, Try.ntmps54
    go_wp2
    go_ret
    exact ⟨rfl, rfl⟩
  · have y : ¬ (40 : Int) < (n : Int) := by omega
    rw [if_neg h]
    clear h
    go_enter Try.func54, Try.ntmps54
    go_wp2
    go_ret
    exact ⟨rfl, rfl⟩
theorem changeMay_any (c : Chg) (w : World) : Calls Try.prog 51 #[.agg #[.string c.k, .string c.v, .bool c.gone]] w fun e w' => e = .returned (.bool (chOk c)) ∧ Below w.heap.size w w' := by
  obtain ⟨ck, cv, cg⟩ := c
  have B0 := Lib.hid ((Below.refl w.heap.size w).alloc (Nat.le_refl _) (.cells #[.string ck, .string cv, .bool cg] 67))
  rcases cg with _ | _
  · have HO : Hid (chOk ⟨ck, cv, false⟩ = (keyOk ck && valOk cv)) := Lib.hid (by unfold chOk; rw [if_neg Bool.false_ne_true])
    rcases hk : keyOk ck with _ | _
    · have K := Lib.hid (fun W => hk ▸ keyMay_any ck W)
      have HB : Hid (chOk ⟨ck, cv, false⟩ = false) := Lib.hid (by rw [HO.out, hk]; rfl)
      clear hk HO
      go_enter Try.func51, Try.ntmps51
      go_wp2_with fail
      refine (K.out _).mono ?_
      rintro e w' ⟨rfl, rfl⟩
      go_wp2_with fail
      go_ret
      exact ⟨by rw [HB.out]; rfl, B0.out⟩
    · have K := Lib.hid (fun W => hk ▸ keyMay_any ck W)
      have V := Lib.hid (fun W => valMay_any cv W)
      have HB : Hid (chOk ⟨ck, cv, false⟩ = valOk cv) := Lib.hid (by rw [HO.out, hk]; rfl)
      clear hk HO
      go_enter Try.func51, Try.ntmps51
      go_wp2_with fail
      refine (K.out _).mono ?_
      rintro e w' ⟨rfl, rfl⟩
      go_wp2_with fail
      refine (V.out _).mono ?_
      rintro e w' ⟨rfl, rfl⟩
      go_wp2_with fail
      go_ret
      exact ⟨by rw [HB.out]; rfl, B0.out⟩
  · have HO : Hid (chOk ⟨ck, cv, true⟩ = (keyOk ck && decide (cv.size = 0))) := Lib.hid (by unfold chOk; rw [if_pos rfl])
    rcases hk : keyOk ck with _ | _
    · have K := Lib.hid (fun W => hk ▸ keyMay_any ck W)
      have HB : Hid (chOk ⟨ck, cv, true⟩ = false) := Lib.hid (by rw [HO.out, hk]; rfl)
      clear hk HO
      go_enter Try.func51, Try.ntmps51
      go_wp2_with fail
      refine (K.out _).mono ?_
      rintro e w' ⟨rfl, rfl⟩
      go_wp2_with fail
      go_ret
      exact ⟨by rw [HB.out]; rfl, B0.out⟩
    · have K := Lib.hid (fun W => hk ▸ keyMay_any ck W)
      have HB : Hid (chOk ⟨ck, cv, true⟩ = cv.toList.isEmpty) := Lib.hid (by
        rw [HO.out, hk, Bool.true_and]
        by_cases h : cv.toList = []
        · rw [h, decide_eq_true (toList_nil.1 h)]; rfl
        · rw [decide_eq_false (fun e => h (toList_nil.2 e))]
          cases hl : cv.toList with
          | nil => exact absurd hl h
          | cons _ _ => rfl)
      clear hk HO
      go_enter Try.func51, Try.ntmps51
      go_wp2_with fail
      refine (K.out _).mono ?_
      rintro e w' ⟨rfl, rfl⟩
      go_wp2_with fail
      go_ret
      exact ⟨by rw [HB.out]; rfl, B0.out⟩
end Go.Proofs.Ytdahhnefcageeaa
