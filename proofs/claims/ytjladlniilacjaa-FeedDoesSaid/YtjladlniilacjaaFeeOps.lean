/-
  Package feed: New, Forget, tidy, Unsubscribe.
-/
import Derived.Test.YtjladlniilacjaaFeeSub
namespace Go.Proofs.Ytjladlniilacjaa
open Go.RowKit Go.Shelf Go.Proofs.Fee
set_option linter.unusedVariables false
set_option linter.unusedSimpArgs false
section
set_option maxHeartbeats 1000000 in
theorem new_feed (room : Int) (w : World) :
    Calls Try.prog 26 #[.int .i64 room] w fun e w' => e = .returned (.pointer (some ⟨w.heap.size + 1, 0, none⟩)) ∧ Fd w.heap.size (w.heap.size + 1) w.heap.size (news room) [] w' ∧ Bl w.heap.size w w' := by
  obtain ⟨M, hM⟩ : ∃ z, z = min (max room 1) 4 := ⟨_, rfl⟩
  have HM := Lib.hid hM
  have hmm := @run_makeMap Try.prog
  clear hM
  go_enter Try.func26, Try.ntmps26
  go_wp2_with fail
  rw [← HM.out]
  go_ret
  refine ⟨rfl, ⟨{ blk := ?_, map := (Mk.new w).same (Below.heap_alloc _ _ _ (by simp)), each := (by simp), apart := (by simp), mB := by omega, pB := Nat.le_refl _ }, rfl, news_ok room⟩, ((Bl.start w).alloc _).alloc _⟩
  have k := Blk.new (w.alloc (.map #[] 0)) 114 #[.int .i64 M, .map (some w.heap.size)]
  rw [World.size_alloc] at k
  have e : ((news room).room : Int) = M := by
    show ((min (max room 1) 4).toNat : Int) = M
    rw [HM.out]; omega
  rw [e]
  exact k
variable {B m mp : Nat} {t : Tbl} {rs : Keyz Rw} {w : World}
theorem del_none {α : Type} {ks : Keyz α} {s : Int} (h : atK ks s = none) : delK ks s = ks := by
  unfold delK
  rw [List.filter_eq_self]
  intro p hp
  simp
  intro e
  have : hasK ks s = true := by rw [hasK_iff]; exact ⟨p.2, by rw [← e]; exact hp⟩
  rw [← atK_has, h] at this
  cases this
set_option maxHeartbeats 1000000 in
theorem forget_any (h : Fd B m mp t rs w) (s : Int) (hs : wfI s) :
    Calls Try.prog 38 #[.pointer (some ⟨m, 0, none⟩), .int .i64 s] w fun e w' => e = .returned (.int .i64 ((t.forget s).2 : Int)) ∧ Fs B m mp rs w (t.forget s).1 w' := by
  have WA := Lib.hid (waiting_any h s hs)
  have c1 := h.c1
  obtain ⟨w2, hdel, MP2, hg2⟩ := h.ft.map.del s hs 0
  have FS : Hid (Fs B m mp rs w (t.forget s).1 w2) := Lib.hid (h.gone ((Far.refl (fun k => k = mp) w).grown hg2 (fun i _ e => by cases e; rfl)) MP2)
  have e : (t.forget s).2 = t.wait s := rfl
  rw [e]
  obtain ⟨n, hn⟩ : ∃ n, n = t.wait s := ⟨_, rfl⟩
  rw [← hn] at WA ⊢
  clear h MP2 hg2 hn e
  go_enter Try.func38, Try.ntmps38
  go_wp2_with (go_at_call 37; refine WA.out.mono ?_; rintro e w' ⟨rfl, rfl⟩)
  go_ret
  exact ⟨rfl, FS.out⟩
/-- What tidy does where a row is. -/
theorem tidy_hit (h : Fd B m mp t rs w) {s : Int} {x : Rw} (hx : atK rs s = some x) : (t.row s).bare = (!x.fol && decide (x.q.length = 0)) := by
  rw [(h.hit hx).2.2.1]
  unfold Row.bare Rw.row
  cases x.q <;> simp
set_option maxHeartbeats 2000000 in
theorem tidy_any (h : Fd B m mp t rs w) (s : Int) (hs : wfI s) (hx : (atK rs s).isSome = true) :
    Calls Try.prog 63 #[.pointer (some ⟨m, 0, none⟩), .int .i64 s] w fun e w' => e = .returned (.tuple #[]) ∧ Fs B m mp rs w (t.tidy s) w' := by
  obtain ⟨x, hx⟩ := Option.isSome_iff_exists.1 hx
  have c1 := h.c1
  have LK := h.look s hs
  rw [hx] at LK
  unfold Option.map ptrV at LK
  simp only at LK
  obtain ⟨hm, hr, hrow, _⟩ := h.hit hx
  have d0 := hr.c0
  have d1 := hr.c1
  obtain ⟨A, c, hv, _⟩ := hr.shape
  rw [hv] at d1
  have hb := tidy_hit h hx
  obtain ⟨n, hn⟩ : ∃ n, n = x.q.length := ⟨_, rfl⟩
  rw [← hn] at d1 hb
  have H := Lib.hid h
  have HB := Lib.hid hb
  obtain ⟨xb, hxb⟩ : ∃ z, z = x.b := ⟨_, rfl⟩
  rw [← hxb] at LK d0 d1
  cases hf : x.fol with
  | true =>
    rw [hf] at d0 HB
    have HT : Hid (t.tidy s = t) := Lib.hid (by unfold Tbl.tidy; rw [HB.out]; rfl)
    clear h hx hm hr hrow hv hb hn hxb hf
    go_enter Try.func63, Try.ntmps63
    go_wp2_with fail
    go_end0
    rw [HT.out]
    exact ⟨rfl, Fs.same H.out (Below.refl _ _)⟩
  | false =>
    rw [hf] at d0 HB
    by_cases hz : n = 0
    · have HT : Hid (t.tidy s = t.del s) := Lib.hid (by unfold Tbl.tidy; rw [HB.out, hz]; rfl)
      obtain ⟨w2, hdel, MP2, hg2⟩ := h.ft.map.del s hs 0
      have FS : Hid (Fs B m mp rs w (t.del s) w2) := Lib.hid (h.gone ((Far.refl (fun k => k = mp) w).grown hg2 (fun i _ e => by cases e; rfl)) MP2)
      subst hz
      clear h hx hm hr hrow hv hb hn hxb hf MP2 hg2
      go_enter Try.func63, Try.ntmps63
      go_wp2_with fail
      go_end0
      rw [HT.out]
      exact ⟨rfl, FS.out⟩
    · have HT : Hid (t.tidy s = t) := Lib.hid (by unfold Tbl.tidy; rw [HB.out, decide_eq_false hz]; rfl)
      have i1 : ((n : Int) == 0) = false := by simp; omega
      have i2 : ¬ (n : Int) = 0 := by omega
      clear h hx hm hr hrow hv hb hn hxb hf hz
      go_enter Try.func63, Try.ntmps63
      go_wp2_with fail
      go_end0
      rw [HT.out]
      exact ⟨rfl, Fs.same H.out (Below.refl _ _)⟩
end
end Go.Proofs.Ytjladlniilacjaa
