/-
  Package lease: a table that was made, and what a call makes of it: Renew, Repin.
-/
import Derived.Test.YtjladlniilacjaaLeaFind
import Derived.Test.YtjladlniilacjaaLeaOk
namespace Go.Proofs.Ytjladlniilacjaa
open Go.RowKit Go.Proofs.Lea
set_option linter.unusedVariables false
set_option linter.unusedSimpArgs false
/-- A table, and its rows, each in a block of its own. -/
structure Lt (B m : Nat) (t : Tbl) (vs : Nat → Value) (ve : Value) (w : World) : Prop where
  blk : Blk w m 92 (tC t vs ve)
  rows : ∀ i, i < 4 → w.ownsRow B 105 2 (vs i) (t.sl i).kept.length (flatA (t.sl i).kept)
  ended : w.ownsRow B 3 1 ve t.ended.length (ints t.ended)
  ok : t.Ok
  few : t.ended.length ≤ 100
  mB : B ≤ m
  vm : ∀ i, i < 4 → (vs i).ownBlock ≠ some m
  em : ve.ownBlock ≠ some m
  ev : ∀ i, i < 4 → ∀ b, (vs i).ownBlock = some b → ve.ownBlock ≠ some b
  vv : ∀ i j, i < 4 → j < 4 → i ≠ j → ∀ b, (vs i).ownBlock = some b → (vs j).ownBlock ≠ some b
/-- The blocks that a table may turn. -/
def OwnL (m : Nat) (vs : Nat → Value) (ve : Value) (k : Nat) : Prop := k = m ∨ (∃ i, i < 4 ∧ (vs i).ownBlock = some k) ∨ ve.ownBlock = some k
section
variable {B m : Nat} {t t' : Tbl} {vs vs' : Nat → Value} {ve ve' : Value} {w w' w1 w2 : World}
theorem Lt.far {S : Nat → Prop} (h : Lt B m t vs ve w) (F : Far S w w') (hS : ∀ k, OwnL m vs ve k → ¬ S k) : Lt B m t vs ve w' :=
  { blk := h.blk.far F (hS m (.inl rfl)), rows := fun i hi => own_far (h.rows i hi) F (fun b hb => hS b (.inr (.inl ⟨i, hi, hb⟩))), ended := own_far h.ended F (fun b hb => hS b (.inr (.inr hb))),
    ok := h.ok, few := h.few, mB := h.mB, vm := h.vm, em := h.em, ev := h.ev, vv := h.vv }
theorem far_of_below (k : Below w.heap.size w w') : Far (fun _ => False) w w' := ⟨k.os, k.tape, k.output, k.size, fun i hi _ => k.block i hi⟩
theorem Lt.below (h : Lt B m t vs ve w) (k : Below w.heap.size w w') : Lt B m t vs ve w' := h.far (far_of_below k) (fun _ _ e => e)
theorem Lt.own (h : Lt B m t vs ve w) : ∀ k, OwnL m vs ve k → B ≤ k ∧ k < w.heap.size := by
  rintro k (rfl | ⟨i, hi, hb⟩ | hb)
  · exact ⟨h.mB, h.blk.lt⟩
  · exact (h.rows i hi).lt k hb
  · exact h.ended.lt k hb
/-- What a call leaves of a table. -/
def Stp (B m : Nat) (vs : Nat → Value) (ve : Value) (w : World) (t' : Tbl) (w' : World) : Prop :=
  ∃ vs' ve', Lt B m t' vs' ve' w' ∧ Far (OwnL m vs ve) w w' ∧ ∀ k, OwnL m vs' ve' k → OwnL m vs ve k ∨ w.heap.size ≤ k
theorem Stp.same (h : Lt B m t vs ve w) (k : Below w.heap.size w w') : Stp B m vs ve w t w' := ⟨vs, ve, h.below k, (far_of_below k).mono (fun _ _ e => e.elim), fun _ h => .inl h⟩
theorem Stp.then (h : Stp B m vs ve w t' w1) (k : Below w1.heap.size w1 w2) : Stp B m vs ve w t' w2 := by
  obtain ⟨vs', ve', h1, h2, h3⟩ := h
  exact ⟨vs', ve', h1.below k, h2.call k, h3⟩
theorem Lt.cell (h : Lt B m t vs ve w) (k : Below w.heap.size w w1) (c : Nat) (u : Value) (he : (tC t vs ve).setIfInBounds c u = tC t' vs ve) (hk : ∀ i, i < 4 → (t'.sl i).kept = (t.sl i).kept) (hend : t'.ended = t.ended) (ok : t'.Ok) :
    Lt B m t' vs ve (w1.setCell ⟨m, c, none⟩ u) ∧ Far (OwnL m vs ve) w (w1.setCell ⟨m, c, none⟩ u) := by
  have h1 := h.below k
  have F : Far (fun j => j = m) w1 (w1.setCell ⟨m, c, none⟩ u) := (Far.refl (fun j => j = m) w1).setCell (p := ⟨m, c, none⟩) (fun _ => rfl) u
  have b := h1.blk.set c u
  rw [he] at b
  refine ⟨{ blk := b, rows := fun i hi => ?_, ended := ?_, ok := ok, few := by rw [hend]; exact h.few, mB := h.mB, vm := h.vm, em := h.em, ev := h.ev, vv := h.vv }, ?_⟩
  · rw [hk i hi]
    exact own_far (h1.rows i hi) F (fun b hb e => h.vm i hi (by rw [hb, e]))
  · rw [hend]
    exact own_far h1.ended F (fun b hb e => h.em (by rw [hb, e]))
  · exact ((far_of_below k).mono (S' := OwnL m vs ve) (fun _ _ e => e.elim)).trans F (fun i _ e => by rw [e]; exact .inl rfl)
theorem Stp.cell (h : Lt B m t vs ve w) (k : Below w.heap.size w w1) (c : Nat) (u : Value) (he : (tC t vs ve).setIfInBounds c u = tC t' vs ve) (hk : ∀ i, i < 4 → (t'.sl i).kept = (t.sl i).kept) (hend : t'.ended = t.ended) (ok : t'.Ok) :
    Stp B m vs ve w t' (w1.setCell ⟨m, c, none⟩ u) :=
  have ⟨a, b⟩ := h.cell k c u he hk hend ok
  ⟨vs, ve, a, b, fun _ h => .inl h⟩
end
/-- A slot is turned, all of it. -/
theorem tC_five (t : Tbl) (h4 : t.slots.length = 4) (vs : Nat → Value) (ve v : Value) (k : Nat) (hk : k < 4) (x : Slo) :
    (((((tC t vs ve).setIfInBounds (2 + k * 5) (.int .i64 x.s.id)).setIfInBounds (2 + k * 5 + 1) (.int .i64 x.s.block)).setIfInBounds (2 + k * 5 + 2) (.int .i64 x.s.dead)).setIfInBounds (2 + k * 5 + 3) (.int .i64 x.s.last)).setIfInBounds (2 + k * 5 + 4) v = tC (t.set k x) (upd vs k v) ve := by
  have hs := set_sl t h4 k hk x
  have h0 := hs 0
  have h1 := hs 1
  have h2 := hs 2
  have h3 := hs 3
  have : k = 0 ∨ k = 1 ∨ k = 2 ∨ k = 3 := by omega
  unfold tC
  rcases this with rfl | rfl | rfl | rfl
  all_goals
    simp only [if_true, if_false, show ((0 : Nat) = 1) = False from by simp, show ((0 : Nat) = 2) = False from by simp, show ((0 : Nat) = 3) = False from by simp, show ((1 : Nat) = 0) = False from by simp, show ((1 : Nat) = 2) = False from by simp, show ((1 : Nat) = 3) = False from by simp, show ((2 : Nat) = 0) = False from by simp, show ((2 : Nat) = 1) = False from by simp, show ((2 : Nat) = 3) = False from by simp, show ((3 : Nat) = 0) = False from by simp, show ((3 : Nat) = 1) = False from by simp, show ((3 : Nat) = 2) = False from by simp] at h0 h1 h2 h3
    rw [h0, h1, h2, h3]
    rfl
theorem ownsRow_nil (w : World) (B : Nat) (T : TypeId) (k : Nat) : w.ownsRow B T k (.slice none 0 0) 0 [] := ⟨by simp, .inl ⟨rfl, rfl⟩⟩
/-- Five cells of a slot are set; its row is nil. -/
theorem Stp.five {B m : Nat} {t t' : Tbl} {vs : Nat → Value} {ve : Value} {w w1 : World} (h : Lt B m t vs ve w) (k : Far (OwnL m vs ve) w w1) (i : Nat) (hi : i < 4) (c : Array Value) (hb : Blk w1 m 92 c) (hrow : ∀ j, j < 4 → w1.ownsRow B 105 2 (vs j) (t.sl j).kept.length (flatA (t.sl j).kept)) (hend : w1.ownsRow B 3 1 ve t.ended.length (ints t.ended)) (x0 x1 x2 x3 : Value)
    (he : ((((c.setIfInBounds (2 + i * 5) x0).setIfInBounds (2 + i * 5 + 1) x1).setIfInBounds (2 + i * 5 + 2) x2).setIfInBounds (2 + i * 5 + 3) x3).setIfInBounds (2 + i * 5 + 4) (.slice none 0 0) = tC t' (upd vs i (.slice none 0 0)) ve)
    (hs : (t'.sl i).kept = []) (ho : ∀ j, j < 4 → j ≠ i → (t'.sl j).kept = (t.sl j).kept) (hen : t'.ended = t.ended) (ok : t'.Ok) :
    Stp B m vs ve w t' (((((w1.setCell ⟨m, 2 + i * 5, none⟩ x0).setCell ⟨m, 2 + i * 5 + 1, none⟩ x1).setCell ⟨m, 2 + i * 5 + 2, none⟩ x2).setCell ⟨m, 2 + i * 5 + 3, none⟩ x3).setCell ⟨m, 2 + i * 5 + 4, none⟩ (.slice none 0 0)) := by
  have F : Far (fun j => j = m) w1 (((((w1.setCell ⟨m, 2 + i * 5, none⟩ x0).setCell ⟨m, 2 + i * 5 + 1, none⟩ x1).setCell ⟨m, 2 + i * 5 + 2, none⟩ x2).setCell ⟨m, 2 + i * 5 + 3, none⟩ x3).setCell ⟨m, 2 + i * 5 + 4, none⟩ (.slice none 0 0)) :=
    (((((Far.refl (fun j => j = m) w1).setCell (p := ⟨m, 2 + i * 5, none⟩) (fun _ => rfl) x0).setCell (p := ⟨m, 2 + i * 5 + 1, none⟩) (fun _ => rfl) x1).setCell (p := ⟨m, 2 + i * 5 + 2, none⟩) (fun _ => rfl) x2).setCell (p := ⟨m, 2 + i * 5 + 3, none⟩) (fun _ => rfl) x3).setCell (p := ⟨m, 2 + i * 5 + 4, none⟩) (fun _ => rfl) (.slice none 0 0)
  have b := ((((hb.set (2 + i * 5) x0).set (2 + i * 5 + 1) x1).set (2 + i * 5 + 2) x2).set (2 + i * 5 + 3) x3).set (2 + i * 5 + 4) (.slice none 0 0)
  rw [he] at b
  have hob : ∀ j, (upd vs i (.slice none 0 0) j).ownBlock = if j = i then none else (vs j).ownBlock := fun j => by unfold upd; split <;> rfl
  refine ⟨upd vs i (.slice none 0 0), ve, { blk := b, rows := fun j hj => ?_, ended := ?_, ok := ok, few := by rw [hen]; exact h.few, mB := h.mB, vm := fun j hj => ?_, em := h.em, ev := fun j hj q hq => ?_, vv := fun j l hj hl hne q hq => ?_ }, ?_, ?_⟩
  · unfold upd
    by_cases e : j = i
    · rw [if_pos e, e, hs]; exact ownsRow_nil _ _ _ _
    · rw [if_neg e, ho j hj e]
      exact own_far (hrow j hj) F (fun b hb e2 => h.vm j hj (by rw [hb, e2]))
  · rw [hen]
    exact own_far hend F (fun b hb e2 => h.em (by rw [hb, e2]))
  · rw [hob]; split
    · simp
    · exact h.vm j hj
  · rw [hob] at hq
    by_cases e : j = i
    · rw [if_pos e] at hq; cases hq
    · rw [if_neg e] at hq; exact h.ev j hj q hq
  · rw [hob] at hq ⊢
    by_cases e : j = i
    · rw [if_pos e] at hq; cases hq
    · rw [if_neg e] at hq
      by_cases e2 : l = i
      · rw [if_pos e2]; simp
      · rw [if_neg e2]; exact h.vv j l hj hl hne q hq
  · exact k.trans F (fun i _ e => by rw [e]; exact .inl rfl)
  · rintro q (rfl | ⟨j, hj, hq⟩ | hq)
    · exact .inl (.inl rfl)
    · rw [hob] at hq
      by_cases e : j = i
      · rw [if_pos e] at hq; cases hq
      · rw [if_neg e] at hq; exact .inl (.inr (.inl ⟨j, hj, hq⟩))
    · exact .inl (.inr (.inr hq))
/-- What number tells. -/
def gotE : Got → Int
  | .ok _ => 0
  | .err e => e
theorem number_got (id clock : Int) (t : Tbl) (w : World) : Calls Try.prog 45 #[gotV id (t.find id clock)] w fun r w' => r = .returned (.int .i64 (gotE (t.find id clock))) ∧ Below w.heap.size w w' := by
  cases h : t.find id clock with
  | ok i => exact (number_nil w).mono fun r w' ⟨h1, h2⟩ => ⟨h1, by rw [← h2]; exact Below.refl _ _⟩
  | err e =>
    rcases find_err h with rfl | rfl
    · exact number_5 id w
    · exact number_6 id w
section
variable {B m : Nat} {t : Tbl} {vs : Nat → Value} {ve : Value} {w : World}
theorem Lt.find (h : Lt B m t vs ve w) (id clock : Int) :
    Calls Try.prog 44 #[.pointer (some ⟨m, 0, none⟩), .int .i64 id, .int .i64 clock] w fun e w' => e = .returned (.tuple #[gotP m (t.find id clock), gotV id (t.find id clock)]) ∧ Below w.heap.size w w' :=
  find_any B m t vs ve id clock w h.blk h.ended (by have := h.few; omega)
set_option maxRecDepth 100000 in
set_option maxHeartbeats 2000000 in
theorem renew_any (h : Lt B m t vs ve w) (id clock : Int) (hc : 0 ≤ clock ∧ clock ≤ 1000000) :
    Calls Try.prog 19 #[.pointer (some ⟨m, 0, none⟩), .int .i64 id, .int .i64 clock] w fun e w' => e = .returned (.int .i64 (t.renew id clock).2) ∧ Stp B m vs ve w (t.renew id clock).1 w' := by
  have FI := Lib.hid (h.find id clock)
  have NU := Lib.hid (fun W => number_got id clock t W)
  have HL := Lib.hid h
  unfold Tbl.renew
  cases hf : t.find id clock with
  | err e =>
    rw [hf] at FI NU
    unfold gotP gotV at FI
    unfold gotV gotE at NU
    simp only at FI NU ⊢
    clear h hf hc
    go_enter Try.func19, Try.ntmps19
    go_wp2_with (first
      | (go_at_call 44; refine FI.out.mono ?_; rintro e w1 ⟨rfl, hb⟩; have B1 := Lib.hid hb; clear hb)
      | (go_at_call 45; refine (NU.out _).mono ?_; rintro e w2 ⟨rfl, hb⟩; have B2 := Lib.hid hb; clear hb))
    go_ret
    exact ⟨rfl, Stp.same HL.out (B1.out.trans (B2.out.mono B1.out.size))⟩
  | ok i =>
    obtain ⟨ht, hd, hn⟩ := find_ok hf
    obtain ⟨hi, hid, h0⟩ := there_facts ht
    rw [hf] at FI NU
    unfold gotP gotV slotP at FI
    unfold gotV gotE at NU
    simp only at FI NU ⊢
    obtain ⟨tm, htm⟩ : ∃ z, z = t.term := ⟨_, rfl⟩
    have htb := h.ok.term
    rw [← htm] at htb
    have CT : Hid (∀ W, Below w.heap.size w W → W.cell? ⟨m, 1, none⟩ = some (.int .i64 tm)) := Lib.hid (fun W hb => by rw [(HL.out.blk.below hb).cell, htm]; rfl)
    have FR : Hid (∀ W, Below w.heap.size w W → W.frozen? ⟨m, 2 + i * 5 + 2, none⟩ = false ∧ W.cell? ⟨m, 2 + i * 5 + 2, none⟩ = some (.int .i64 (t.sl i).s.dead)) := Lib.hid (fun W hb => ⟨(HL.out.blk.below hb).frozen _, by rw [(HL.out.blk.below hb).cell]; exact tC_dead t vs ve i hi⟩)
    have wk : IntKind.i64.wrap (clock + tm) = clock + tm := IntWalk.i64_in _ (by omega)
    have OK := Lib.hid (set_ok h.ok i hi ⟨{ (t.sl i).s with dead := clock + tm }, (t.sl i).kept⟩ rfl (by rw [hid]; exact h0) (h.ok.kept i hi)).1
    have SC := Lib.hid (tC_set_dead t h.ok.four vs ve i hi (clock + tm))
    have KE : Hid (∀ j, j < 4 → ((t.set i ⟨{ (t.sl i).s with dead := clock + tm }, (t.sl i).kept⟩).sl j).kept = (t.sl j).kept) := Lib.hid (fun j _ => by
      rw [sl_set t HL.out.ok.four i hi]
      by_cases e : j = i
      · rw [if_pos e, e]
      · rw [if_neg e])
    rw [← htm]
    clear h hf hc ht hd hn hid h0 htm htb hi
    go_enter Try.func19, Try.ntmps19
    go_wp2_with (first
      | (go_at_call 44; refine FI.out.mono ?_; rintro e w1 ⟨rfl, hb⟩; have B1 := Lib.hid hb; have c1 := CT.out w1 hb; obtain ⟨f1, c2⟩ := FR.out w1 hb; clear hb)
      | (go_at_call 45; refine (NU.out _).mono ?_; rintro e w2 ⟨rfl, hb⟩; have B2 := Lib.hid hb; clear hb))
    go_ret
    exact ⟨rfl, Stp.then (Stp.cell HL.out B1.out _ _ SC.out KE.out rfl OK.out) B2.out⟩
end
end Go.Proofs.Ytjladlniilacjaa
