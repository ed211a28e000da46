/-
  canon.Apply, plainly: what is left of the map, and what the changes tell.
-/
import Derived.Test.YtdahhnefcageeaaMdlCut
import Derived.Test.YtdahhnefcageeaaMdlSort
namespace Go.Proofs.Mdl
open Go.Proofs.Ytdahhnefcageeaa
set_option linter.unusedVariables false
set_option linter.unusedSimpArgs false
theorem lastC_snoc (c : Chg) : ∀ (cs : List Chg) (s : ByteArray), lastC (cs ++ [c]) s = if c.k = s then some c else lastC cs s
  | [], s => by
    show lastC [c] s = _
    rw [lastC_cons]
    show (if c.k = s then some c else none) = _
    rfl
  | d :: r, s => by
    show lastC (d :: (r ++ [c])) s = _
    rw [lastC_cons, lastC_snoc c r s, lastC_cons]
    by_cases h : c.k = s
    · rw [if_pos h, if_pos h]
    · rw [if_neg h, if_neg h]
theorem lastC_step {cs : List Chg} {k : Nat} {c : Chg} (h : cs[k]? = some c) : lastC (cs.take (k + 1)) = fun s => if c.k = s then some c else lastC (cs.take k) s := by
  funext s
  rw [List.take_add_one, h, Option.toList_some, lastC_snoc]
theorem lastC_mem : ∀ {cs : List Chg} {s : ByteArray} {c : Chg}, lastC cs s = some c → c ∈ cs ∧ c.k = s
  | [], _, _, h => by cases h
  | d :: r, s, c, h => by
    rw [lastC_cons] at h
    cases hr : lastC r s with
    | some e =>
      rw [hr] at h
      simp only [Option.some.injEq] at h
      subst h
      have := lastC_mem hr
      exact ⟨List.mem_cons_of_mem _ this.1, this.2⟩
    | none =>
      rw [hr] at h
      simp only at h
      split at h
      · next e => cases h; exact ⟨List.mem_cons_self .., e⟩
      · cases h
/-- What the range over the changes has told. -/
structure Told (f : ByteArray → Option Chg) (left : ByteArray → Bool) (D : List Ent) : Prop where
  nd : (D.map (·.k)).Nodup
  inn : ∀ e ∈ D, left e.k = false ∧ ∃ c, f e.k = some c ∧ c.gone = false ∧ e.v = c.v
  all : ∀ s c, f s = some c → c.gone = false → left s = false → (⟨s, c.v⟩ : Ent) ∈ D
theorem Told.start {f : ByteArray → Option Chg} {left : ByteArray → Bool} (h : ∀ s, left s = (f s).isSome) : Told f left [] :=
  ⟨List.Pairwise.nil, fun e he => absurd he List.not_mem_nil, fun s c hs hg hl => by rw [h, hs] at hl; cases hl⟩
theorem Told.gone {f : ByteArray → Option Chg} {left : ByteArray → Bool} {D : List Ent} (h : Told f left D) {x : ByteArray} {c : Chg} (hf : f x = some c) (hg : c.gone = true) (left' : ByteArray → Bool) (hl : ∀ s, left' s = (left s && !decide (s = x))) : Told f left' D := by
  refine ⟨h.nd, fun e he => ?_, fun s d hs hd hls => ?_⟩
  · obtain ⟨h1, h2⟩ := h.inn e he
    exact ⟨by rw [hl, h1]; rfl, h2⟩
  · by_cases e : s = x
    · subst e
      rw [hf] at hs
      cases hs
      rw [hg] at hd
      cases hd
    · rw [hl] at hls
      simp only [e, decide_false, Bool.not_false, Bool.and_true] at hls
      exact h.all s d hs hd hls
theorem Told.more {f : ByteArray → Option Chg} {left : ByteArray → Bool} {D : List Ent} (h : Told f left D) {x : ByteArray} {c : Chg} (hf : f x = some c) (hg : c.gone = false) (hlx : left x = true) (left' : ByteArray → Bool) (hl : ∀ s, left' s = (left s && !decide (s = x))) : Told f left' (D ++ [⟨x, c.v⟩]) := by
  refine ⟨?_, fun e he => ?_, fun s d hs hd hls => ?_⟩
  · rw [List.map_append]
    refine List.nodup_append.2 ⟨h.nd, List.pairwise_singleton _ _, fun a ha b hb => ?_⟩
    obtain ⟨e, he, rfl⟩ := List.mem_map.1 ha
    simp only [List.map_cons, List.map_nil, List.mem_singleton] at hb
    subst hb
    intro e2
    have := (h.inn e he).1
    rw [e2, hlx] at this
    cases this
  · rcases List.mem_append.1 he with he | he
    · obtain ⟨h1, h2⟩ := h.inn e he
      exact ⟨by rw [hl, h1]; rfl, h2⟩
    · rw [List.mem_singleton.1 he]
      exact ⟨by rw [hl]; simp, c, hf, hg, rfl⟩
  · by_cases e : s = x
    · subst e
      rw [hf] at hs
      cases hs
      exact List.mem_append_right _ (List.mem_singleton.2 rfl)
    · rw [hl] at hls
      simp only [e, decide_false, Bool.not_false, Bool.and_true] at hls
      exact List.mem_append_left _ (h.all s d hs hd hls)
theorem Told.few {cs : List Chg} {left : ByteArray → Bool} {D : List Ent} (h : Told (lastC cs) left D) : D.length ≤ cs.length := by
  have := List.Nodup.length_le_of_subset h.nd (l₂ := cs.map (·.k)) (fun a ha => by
    obtain ⟨e, he, rfl⟩ := List.mem_map.1 ha
    obtain ⟨_, c, hc, _⟩ := h.inn e he
    obtain ⟨h1, h2⟩ := lastC_mem hc
    exact List.mem_map.2 ⟨c, h1, h2⟩)
  simpa using this
theorem getE_iff {l : List Ent} (hu : Up l) {k v : ByteArray} : getE l k = some v ↔ (⟨k, v⟩ : Ent) ∈ l := ⟨getE_mem, fun h => getE_of_mem hu h⟩
theorem up_nodup {l : List Ent} (hu : Up l) : (l.map (·.k)).Nodup := by
  rw [List.Nodup, List.pairwise_map]
  exact hu.imp (fun h => ltB_ne h)
section
variable {l D : List Ent} {cs : List Chg} {left : ByteArray → Bool}
theorem told_mem (hu : Up l) (h : Told (lastC cs) left D) (hl : ∀ s, left s = false) (e : Ent) : e ∈ unch (lastC cs) l ++ D ↔ e ∈ applyL l cs := by
  obtain ⟨ek, ev⟩ := e
  rw [← getE_iff (applyL_up cs hu), getE_apply cs hu, List.mem_append]
  unfold unch
  rw [List.mem_filter]
  cases hf : lastC cs ek with
  | none =>
    simp only [hf, Option.isSome_none, Bool.not_false, and_true]
    rw [getE_iff hu]
    constructor
    · rintro (h1 | h1)
      · exact h1
      · obtain ⟨_, c, hc, _⟩ := h.inn _ h1
        rw [hf] at hc
        cases hc
    · exact .inl
  | some c =>
    simp only [hf, Option.isSome_some, Bool.not_true, Bool.false_eq_true, and_false, false_or]
    unfold tell
    constructor
    · intro h1
      obtain ⟨_, d, hd, hg, hv⟩ := h.inn _ h1
      rw [hf] at hd
      cases hd
      rw [if_neg (by rw [hg]; simp)]
      simp only at hv
      rw [hv]
    · intro h1
      split at h1
      · cases h1
      · next hg =>
        cases h1
        exact h.all ek c hf (by simpa using hg) (hl ek)
theorem told_nodup (hu : Up l) (h : Told (lastC cs) left D) : ((unch (lastC cs) l ++ D).map (·.k)).Nodup := by
  rw [List.map_append]
  refine List.nodup_append.2 ⟨?_, h.nd, fun a ha b hb e2 => ?_⟩
  · exact up_nodup (List.Pairwise.sublist List.filter_sublist hu)
  · obtain ⟨e, he, rfl⟩ := List.mem_map.1 ha
    obtain ⟨d, hd, rfl⟩ := List.mem_map.1 hb
    obtain ⟨_, c, hc, _⟩ := h.inn d hd
    have := (List.mem_filter.1 he).2
    rw [e2, hc] at this
    cases this
theorem nodup_of_map {α β : Type} (f : α → β) {l : List α} (h : (l.map f).Nodup) : l.Nodup := by
  rw [List.Nodup, List.pairwise_map] at h
  exact h.imp (fun h e => h (by rw [e]))
theorem told_perm (hu : Up l) (h : Told (lastC cs) left D) (hl : ∀ s, left s = false) : (unch (lastC cs) l ++ D).Perm (applyL l cs) :=
  (List.perm_ext_iff_of_nodup (nodup_of_map _ (told_nodup hu h)) (nodup_of_map _ (up_nodup (applyL_up cs hu)))).2 (told_mem hu h hl)
theorem told_sorted (hu : Up l) (h : Told (lastC cs) left D) (hl : ∀ s, left s = false) {l' : List Ent} (hp : l'.Perm (unch (lastC cs) l ++ D)) (hs : l'.Pairwise (fun x y => ltB y.k x.k = false)) : l' = applyL l cs := by
  have u1 := up_perm hp (told_nodup hu h) hs
  have u2 := applyL_up cs hu
  refine ext_get u1 u2 (fun k => Option.ext fun v => ?_)
  rw [getE_iff u1, getE_iff u2]
  exact (hp.trans (told_perm hu h hl)).mem_iff
end
end Go.Proofs.Mdl
