/-
  Package model: versions, and models, plainly; what a slice of versions shows.
-/
import Derived.Test.YtdahhnefcageeaaMdlApply
namespace Go.Proofs.Mdl
open Go
/-- A version. -/
structure Ver where
  b : Int
  e : List Ent
  c : List Chg
  p : Int
deriving DecidableEq
/-- A model. -/
structure Mod where
  w : Int
  n : Int
  all : List Ver
deriving DecidableEq
def keptV (M : Mod) (last : Bool) (v : Ver) : Bool := last || decide (M.n - M.w ≤ v.b) || decide (0 < v.p)
/-- A version, as its cells tell. -/
structure Raw where
  b : Int
  e : Value
  c : Value
  p : Int
end Go.Proofs.Mdl
namespace Go.Proofs.Ytdahhnefcageeaa
open Go.RowKit Go.Proofs.Mdl
set_option linter.unusedVariables false
set_option linter.unusedSimpArgs false
def cellR (r : Raw) : List Value := [.int .i64 r.b, r.e, r.c, .int .i64 r.p]
def flatR (l : List Raw) : List Value := l.flatMap cellR
theorem flatR_cons (e : Raw) (l : List Raw) : flatR (e :: l) = cellR e ++ flatR l := rfl
theorem flatR_append (a b : List Raw) : flatR (a ++ b) = flatR a ++ flatR b := by simp [flatR, List.flatMap_append]
theorem flatR_length (l : List Raw) : (flatR l).length = l.length * 4 := by
  induction l with
  | nil => rfl
  | cons a r ih => rw [flatR_cons, List.length_append, ih]; simp [cellR]; omega
theorem flatR_at : ∀ (l : List Raw) (j : Nat) (r : Raw), l[j]? = some r → (flatR l)[j * 4]? = some (.int .i64 r.b) ∧ (flatR l)[j * 4 + 1]? = some r.e ∧ (flatR l)[j * 4 + 2]? = some r.c ∧ (flatR l)[j * 4 + 3]? = some (.int .i64 r.p)
  | [], j, s, h => by simp at h
  | x :: r, 0, s, h => by
    simp only [List.getElem?_cons_zero, Option.some.injEq] at h
    subst h
    exact ⟨rfl, rfl, rfl, rfl⟩
  | x :: r, j + 1, s, h => by
    have := flatR_at r j s (by simpa using h)
    have e : ∀ k, (flatR (x :: r))[(j + 1) * 4 + k]? = (flatR r)[j * 4 + k]? := fun k => by
      rw [flatR_cons, List.getElem?_append_right (by simp [cellR]; omega)]
      congr 1
      simp [cellR]
      omega
    exact ⟨(e 0).trans this.1, (e 1).trans this.2.1, (e 2).trans this.2.2.1, (e 3).trans this.2.2.2⟩
/-- What the cells of a version tell, in blocks that N tells of. -/
structure Sh (N : Nat → Prop) (w : World) (r : Raw) (V : Ver) : Prop where
  b : r.b = V.b
  p : r.p = V.p
  e : EsN N w r.e V.e
  c : CsN N w r.c V.c
/-- .. of versions. -/
structure Rv (N : Nat → Prop) (w : World) (rs : List Raw) (L : List Ver) : Prop where
  len : rs.length = L.length
  at_ : ∀ (j : Nat) (r : Raw) (V : Ver), rs[j]? = some r → L[j]? = some V → Sh N w r V
def Vl (N : Nat → Prop) (w : World) (v : Value) (L : List Ver) : Prop := ∃ A c rs, v = .slice A L.length c ∧ L.length ≤ c ∧ VsN N w A (flatR rs) ∧ Rv N w rs L
def Md (N : Nat → Prop) (w : World) (v : Value) (M : Mod) : Prop := ∃ u, v = .agg #[.int .i64 M.w, .int .i64 M.n, u] ∧ Vl N w u M.all
section
variable {N : Nat → Prop} {w w' : World}
theorem Sh.far {S : Nat → Prop} {r : Raw} {V : Ver} (h : Sh N w r V) (k : Far S w w') (hS : ∀ b, N b → b < w.heap.size → ¬ S b) : Sh N w' r V := ⟨h.b, h.p, h.e.far k hS, h.c.far k hS⟩
theorem Rv.far {S : Nat → Prop} {rs : List Raw} {L : List Ver} (h : Rv N w rs L) (k : Far S w w') (hS : ∀ b, N b → b < w.heap.size → ¬ S b) : Rv N w' rs L := ⟨h.len, fun j r V h1 h2 => (h.at_ j r V h1 h2).far k hS⟩
theorem Vl.far {S : Nat → Prop} {v : Value} {L : List Ver} (h : Vl N w v L) (k : Far S w w') (hS : ∀ b, N b → b < w.heap.size → ¬ S b) : Vl N w' v L := by
  obtain ⟨A, c, rs, h1, h2, h3, h4⟩ := h
  exact ⟨A, c, rs, h1, h2, h3.far k hS, h4.far k hS⟩
theorem Md.far {S : Nat → Prop} {v : Value} {M : Mod} (h : Md N w v M) (k : Far S w w') (hS : ∀ b, N b → b < w.heap.size → ¬ S b) : Md N w' v M := by
  obtain ⟨u, h1, h2⟩ := h
  exact ⟨u, h1, h2.far k hS⟩
theorem Sh.mono {N' : Nat → Prop} {r : Raw} {V : Ver} (h : Sh N w r V) (hN : ∀ b, N b → b < w.heap.size → N' b) : Sh N' w r V := ⟨h.b, h.p, h.e.mono hN, h.c.mono hN⟩
theorem Rv.mono {N' : Nat → Prop} {rs : List Raw} {L : List Ver} (h : Rv N w rs L) (hN : ∀ b, N b → b < w.heap.size → N' b) : Rv N' w rs L := ⟨h.len, fun j r V h1 h2 => (h.at_ j r V h1 h2).mono hN⟩
theorem Vl.mono {N' : Nat → Prop} {v : Value} {L : List Ver} (h : Vl N w v L) (hN : ∀ b, N b → b < w.heap.size → N' b) : Vl N' w v L := by
  obtain ⟨A, c, rs, h1, h2, h3, h4⟩ := h
  exact ⟨A, c, rs, h1, h2, h3.mono hN, h4.mono hN⟩
theorem Md.mono {N' : Nat → Prop} {v : Value} {M : Mod} (h : Md N w v M) (hN : ∀ b, N b → b < w.heap.size → N' b) : Md N' w v M := by
  obtain ⟨u, h1, h2⟩ := h
  exact ⟨u, h1, h2.mono hN⟩
theorem Sh.below {r : Raw} {V : Ver} (h : Sh N w r V) (k : Below w.heap.size w w') : Sh N w' r V := h.far (far_of_below k) (fun _ _ _ h => h)
theorem Rv.below {rs : List Raw} {L : List Ver} (h : Rv N w rs L) (k : Below w.heap.size w w') : Rv N w' rs L := h.far (far_of_below k) (fun _ _ _ h => h)
theorem Vl.below {v : Value} {L : List Ver} (h : Vl N w v L) (k : Below w.heap.size w w') : Vl N w' v L := h.far (far_of_below k) (fun _ _ _ h => h)
theorem Md.below {v : Value} {M : Mod} (h : Md N w v M) (k : Below w.heap.size w w') : Md N w' v M := h.far (far_of_below k) (fun _ _ _ h => h)
theorem Rv.nil : Rv N w [] [] := ⟨rfl, fun j r V h => by simp at h⟩
theorem Rv.get {rs : List Raw} {L : List Ver} (h : Rv N w rs L) {j : Nat} {V : Ver} (hj : L[j]? = some V) : ∃ r, rs[j]? = some r ∧ Sh N w r V := by
  have hlt : j < rs.length := by rw [h.len]; exact (List.getElem?_eq_some_iff.1 hj).1
  exact ⟨_, List.getElem?_eq_getElem hlt, h.at_ j _ V (List.getElem?_eq_getElem hlt) hj⟩
theorem Sh.one {r : Raw} {V : Ver} (h : Sh N w r V) : ∀ v ∈ cellR r, v.oneCell' = true := by
  obtain ⟨A, n, e1⟩ := h.e.toEs.shape
  obtain ⟨B, m, e2⟩ := h.c.toCs.shape
  intro v hv
  unfold cellR at hv
  simp only [List.mem_cons, List.not_mem_nil, or_false] at hv
  rcases hv with rfl | rfl | rfl | rfl
  · rfl
  · rw [e1]; rfl
  · rw [e2]; rfl
  · rfl
theorem Rv.one {rs : List Raw} {L : List Ver} (h : Rv N w rs L) : ∀ v ∈ flatR rs, v.oneCell' = true := by
  intro v hv
  obtain ⟨r, hr, hv⟩ := List.mem_flatMap.1 hv
  obtain ⟨j, hj⟩ := List.getElem?_of_mem hr
  have hlt : j < L.length := by rw [← h.len]; exact (List.getElem?_eq_some_iff.1 hj).1
  exact (h.at_ j r _ hj (List.getElem?_eq_getElem hlt)).one v hv
theorem Rv.append {rs ss : List Raw} {L K : List Ver} (h : Rv N w rs L) (k : Rv N w ss K) : Rv N w (rs ++ ss) (L ++ K) := by
  refine ⟨by rw [List.length_append, List.length_append, h.len, k.len], fun j r V h1 h2 => ?_⟩
  by_cases hj : j < rs.length
  · rw [List.getElem?_append_left hj] at h1
    rw [List.getElem?_append_left (by rw [← h.len]; exact hj)] at h2
    exact h.at_ j r V h1 h2
  · rw [List.getElem?_append_right (by omega)] at h1
    rw [List.getElem?_append_right (by rw [← h.len]; omega), ← h.len] at h2
    exact k.at_ _ r V h1 h2
theorem Rv.single {r : Raw} {V : Ver} (h : Sh N w r V) : Rv N w [r] [V] := by
  refine ⟨rfl, fun j s U h1 h2 => ?_⟩
  cases j with
  | zero =>
    simp only [List.getElem?_cons_zero, Option.some.injEq] at h1 h2
    subst h1; subst h2
    exact h
  | succ j => simp at h1
theorem Rv.take {rs : List Raw} {L : List Ver} (h : Rv N w rs L) (n : Nat) : Rv N w (rs.take n) (L.take n) := by
  refine ⟨by rw [List.length_take, List.length_take, h.len], fun j r V h1 h2 => ?_⟩
  rw [List.getElem?_take] at h1 h2
  split at h1
  · next hj => rw [if_pos hj] at h2; exact h.at_ j r V h1 h2
  · cases h1
theorem Rv.drop {rs : List Raw} {L : List Ver} (h : Rv N w rs L) (n : Nat) : Rv N w (rs.drop n) (L.drop n) := by
  refine ⟨by rw [List.length_drop, List.length_drop, h.len], fun j r V h1 h2 => ?_⟩
  rw [List.getElem?_drop] at h1 h2
  exact h.at_ _ r V h1 h2
theorem Rv.set {rs : List Raw} {L : List Ver} (h : Rv N w rs L) (n : Nat) {r : Raw} {V : Ver} (k : Sh N w r V) : Rv N w (rs.set n r) (L.set n V) := by
  refine ⟨by rw [List.length_set, List.length_set, h.len], fun j s U h1 h2 => ?_⟩
  rw [List.getElem?_set] at h1 h2
  by_cases e : n = j
  · rw [if_pos e] at h1 h2
    split at h1
    · next hl =>
      rw [if_pos (by rw [← h.len]; exact hl)] at h2
      cases h1; cases h2
      exact k
    · cases h1
  · rw [if_neg e] at h1 h2
    exact h.at_ j s U h1 h2
theorem Vl.shape {v : Value} {L : List Ver} (h : Vl N w v L) : ∃ A c, v = .slice A L.length c := by
  obtain ⟨A, c, rs, h1, _⟩ := h
  exact ⟨A, c, h1⟩
theorem Vl.of_own {base : Nat} {T : TypeId} {v : Value} {L : List Ver} {rs : List Raw} (h : w.ownsRow base T 4 v L.length (flatR rs)) (k : Rv N w rs L) (hN : ∀ b, base ≤ b → N b) : Vl N w v L := by
  obtain ⟨A, c, h1, h2, h3⟩ := VsN.of_own h (by rw [flatR_length, k.len])
  exact ⟨A, c, rs, h1, h2, h3.mono (fun b hb _ => hN b hb), k⟩
/-- A version's cells. -/
theorem Vl.at_ {v : Value} {L : List Ver} (h : Vl N w v L) {j : Nat} {V : Ver} (hj : L[j]? = some V) :
    ∃ b o c ve vc, v = .slice (some ⟨b, o, none⟩) L.length c ∧ b < w.heap.size ∧ EsN N w ve V.e ∧ CsN N w vc V.c ∧ w.cell? ⟨b, o + j * 4, none⟩ = some (.int .i64 V.b) ∧ w.cell? ⟨b, o + j * 4 + 1, none⟩ = some ve ∧ w.cell? ⟨b, o + j * 4 + 2, none⟩ = some vc ∧ w.cell? ⟨b, o + j * 4 + 3, none⟩ = some (.int .i64 V.p) := by
  obtain ⟨A, c, rs, h1, h2, h3, h4⟩ := h
  obtain ⟨r, hr, hs⟩ := h4.get hj
  obtain ⟨e0, e1, e2, e3⟩ := flatR_at rs j r hr
  obtain ⟨b, o, rfl, hb, hc⟩ := h3.vs.at_ _ _ e0
  refine ⟨b, o, c, r.e, r.c, h1, hb, hs.e, hs.c, ?_, ?_, ?_, ?_⟩
  · rw [← hs.b]; exact hc _ _ e0
  · have := hc _ _ e1; rwa [← Nat.add_assoc] at this
  · have := hc _ _ e2; rwa [← Nat.add_assoc] at this
  · rw [← hs.p]; have := hc _ _ e3; rwa [← Nat.add_assoc] at this
end
end Go.Proofs.Ytdahhnefcageeaa
