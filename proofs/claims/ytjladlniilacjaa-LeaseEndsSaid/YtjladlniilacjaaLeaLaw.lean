/-
  The law's package for lease: what a law holds of its table, its rows; every call; an act.
-/
import Derived.Test.YtjladlniilacjaaLeaArgs
import Derived.Test.YtjladlniilacjaaLeaInv
import Derived.Test.YtjladlniilacjaaLeaKept
namespace Go.Proofs.Ytjladlniilacjaa
open Go.RowKit Go.Proofs.Lea
set_option linter.unusedVariables false
set_option linter.unusedSimpArgs false
/-- A law's table. -/
structure Lv (w0 : World) (m : Nat) (t : Tbl) (vs : Nat → Value) (ve : Value) (w : World) : Prop where
  lt : Lt w0.heap.size m t vs ve w
  fine : t.Fine
  below : Below w0.heap.size w0 w
/-- A row of sessions that a law holds. -/
def SRow (w0 : World) (m : Nat) (vs : Nat → Value) (ve : Value) (v : Value) (l : List Ses) (w : World) : Prop :=
  w.ownsRow w0.heap.size 29 4 v l.length (flatS l) ∧ ∀ b, v.ownBlock = some b → ¬ OwnL m vs ve b
/-- A block that a law holds. -/
def SBlk (m : Nat) (vs : Nat → Value) (ve : Value) (b : Nat) (T : TypeId) (cs : Array Value) (w : World) : Prop := Blk w b T cs ∧ ¬ OwnL m vs ve b
structure Kp (w0 : World) (m : Nat) (vs : Nat → Value) (ve : Value) (w : World) (vs' : Nat → Value) (ve' : Value) (w' : World) : Prop where
  row : ∀ {v : Value} {l : List Ses}, SRow w0 m vs ve v l w → SRow w0 m vs' ve' v l w'
  blk : ∀ {b : Nat} {T : TypeId} {cs : Array Value}, SBlk m vs ve b T cs w → SBlk m vs' ve' b T cs w'
/-- What a call leaves of a law's table and rows. -/
def Nxt (w0 : World) (m : Nat) (vs : Nat → Value) (ve : Value) (w : World) (t' : Tbl) (w' : World) : Prop :=
  ∃ vs' ve', Lv w0 m t' vs' ve' w' ∧ Kp w0 m vs ve w vs' ve' w'
section
variable {w0 w w1 : World} {m : Nat} {t t' : Tbl} {vs vs' : Nat → Value} {ve ve' : Value}
theorem Kp.of (F : Far (OwnL m vs ve) w w1) (O : ∀ k, OwnL m vs' ve' k → OwnL m vs ve k ∨ w.heap.size ≤ k) : Kp w0 m vs ve w vs' ve' w1 := by
  refine ⟨fun {v l} hr => ⟨own_far hr.1 F hr.2, fun b hb e => ?_⟩, fun {b T cs} hr => ⟨hr.1.far F hr.2, fun e => ?_⟩⟩
  · rcases O b e with e1 | e1
    · exact hr.2 b hb e1
    · have := (hr.1.lt b hb).2; omega
  · rcases O b e with e1 | e1
    · exact hr.2 e1
    · have := hr.1.lt; omega
theorem Lv.alloc (h : Lv w0 m t vs ve w) (ob : Obj) : Lv w0 m t vs ve (w.alloc ob) :=
  have k := ((Bl.start w).alloc ob).1
  ⟨h.lt.below k, h.fine, h.below.trans ((far_of_below k).below h.below.size (fun _ e => e.elim))⟩
theorem SRow.alloc {v : Value} {l : List Ses} (h : SRow w0 m vs ve v l w) (ob : Obj) : SRow w0 m vs ve v l (w.alloc ob) := ⟨own_far h.1 (far_of_below ((Bl.start w).alloc ob).1) (fun _ _ e => e), h.2⟩
theorem SBlk.alloc {b : Nat} {T : TypeId} {cs : Array Value} (h : SBlk m vs ve b T cs w) (ob : Obj) : SBlk m vs ve b T cs (w.alloc ob) := ⟨h.1.alloc ob, h.2⟩
theorem SBlk.call {b : Nat} {T : TypeId} {cs : Array Value} (h : SBlk m vs ve b T cs w) (k : Below w.heap.size w w1) : SBlk m vs ve b T cs w1 := ⟨h.1.far (far_of_below k) (fun e => e), h.2⟩
theorem Lv.nblk (h : Lv w0 m t vs ve w) (cs : Array Value) (T : TypeId) : SBlk m vs ve w.heap.size T cs (w.alloc (.cells cs T)) := ⟨Blk.new w T cs, fun e => by have := (h.lt.own _ e).2; omega⟩
theorem Lv.step (h : Lv w0 m t vs ve w) (L : Lt w0.heap.size m t' vs' ve' w1) (F : Far (OwnL m vs ve) w w1) (O : ∀ k, OwnL m vs' ve' k → OwnL m vs ve k ∨ w.heap.size ≤ k) (f : t'.Fine) : Nxt w0 m vs ve w t' w1 := by
  exact ⟨vs', ve', ⟨L, f, h.below.trans (F.below h.below.size (fun k hk => (h.lt.own k hk).1))⟩, .of F O⟩
theorem Lv.stp (h : Lv w0 m t vs ve w) (S : Stp w0.heap.size m vs ve w t' w1) (f : t'.Fine) : Nxt w0 m vs ve w t' w1 := by
  obtain ⟨vs', ve', L, F, O⟩ := S
  exact h.step L F O f
theorem Lv.call (h : Lv w0 m t vs ve w) (k : Below w.heap.size w w1) : Lv w0 m t vs ve w1 := ⟨h.lt.below k, h.fine, h.below.trans ((far_of_below k).below h.below.size (fun _ e => e.elim))⟩
theorem SRow.call {v : Value} {l : List Ses} (h : SRow w0 m vs ve v l w) (k : Below w.heap.size w w1) : SRow w0 m vs ve v l w1 := ⟨own_far h.1 (far_of_below k) (fun _ _ e => e), h.2⟩
theorem Lv.new (h : Lv w0 m t vs ve w) {v : Value} {l : List Ses} (k : Below w.heap.size w w1) (hr : w1.ownsRow w.heap.size 29 4 v l.length (flatS l)) : SRow w0 m vs ve v l w1 :=
  ⟨ownsRow_base hr h.below.size, fun b hb e => by have := (hr.lt b hb).1; have := (h.lt.own b e).2; omega⟩
theorem lv_new (most term : Int) (hb : Below w0.heap.size w0 w) : Calls Try.prog 12 #[.int .i64 most, .int .i64 term] w fun e w' => e = .returned (.pointer (some ⟨w.heap.size, 0, none⟩)) ∧ Lv w0 w.heap.size (news most term) (fun _ => .slice none 0 0) (.slice none 0 0) w' := by
  refine (new_any most term w).mono ?_
  rintro e w' ⟨rfl, h, h2⟩
  have hs := hb.size
  refine ⟨rfl, { lt := { blk := h.blk, rows := fun i hi => ownsRow_base (h.rows i hi) hs, ended := ownsRow_base h.ended hs, ok := h.ok, few := h.few, mB := hs, vm := h.vm, em := h.em, ev := h.ev, vv := h.vv }, fine := news_fine _ _, below := hb.trans ((far_of_below h2.1).below hs (fun _ e => e.elim)) }⟩
theorem lv_open (h : Lv w0 m t vs ve w) (block clock : Int) (hc : 0 ≤ clock ∧ clock ≤ 1000000) :
    Calls Try.prog 24 #[.pointer (some ⟨m, 0, none⟩), .int .i64 block, .int .i64 clock] w fun e w' => e = .returned (.tuple #[.int .i64 (t.opens block clock).2.1, .int .i64 (t.opens block clock).2.2]) ∧ Nxt w0 m vs ve w (t.opens block clock).1 w' := by
  refine (open_any h.lt block clock hc).mono ?_
  rintro e w' ⟨rfl, S⟩
  exact ⟨rfl, h.stp S (by have := does_fine h.lt.ok h.fine ⟨0, 0, block, clock, 0, ⟨#[]⟩⟩; exact this)⟩
theorem lv_find (h : Lv w0 m t vs ve w) (id clock : Int) :
    Calls Try.prog 18 #[.pointer (some ⟨m, 0, none⟩), .int .i64 id, .int .i64 clock] w fun e w' => e = .returned (.tuple #[.agg #[.int .i64 (t.finds id clock).1.id, .int .i64 (t.finds id clock).1.block, .int .i64 (t.finds id clock).1.dead, .int .i64 (t.finds id clock).1.last], .int .i64 (t.finds id clock).2]) ∧ Below w.heap.size w w' := finds_any h.lt id clock
theorem lv_renew (h : Lv w0 m t vs ve w) (id clock : Int) (hc : 0 ≤ clock ∧ clock ≤ 1000000) :
    Calls Try.prog 19 #[.pointer (some ⟨m, 0, none⟩), .int .i64 id, .int .i64 clock] w fun e w' => e = .returned (.int .i64 (t.renew id clock).2) ∧ Nxt w0 m vs ve w (t.renew id clock).1 w' := by
  refine (renew_any h.lt id clock hc).mono ?_
  rintro e w' ⟨rfl, S⟩
  exact ⟨rfl, h.stp S (by have := does_fine h.lt.ok h.fine ⟨2, id, 0, clock, 0, ⟨#[]⟩⟩; exact this)⟩
theorem lv_repin (h : Lv w0 m t vs ve w) (id block clock : Int) :
    Calls Try.prog 41 #[.pointer (some ⟨m, 0, none⟩), .int .i64 id, .int .i64 block, .int .i64 clock] w fun e w' => e = .returned (.tuple #[.int .i64 (t.repin id block clock).2.1, .int .i64 (t.repin id block clock).2.2]) ∧ Nxt w0 m vs ve w (t.repin id block clock).1 w' := by
  refine (repin_any h.lt id block clock).mono ?_
  rintro e w' ⟨rfl, S⟩
  exact ⟨rfl, h.stp S (by have := does_fine h.lt.ok h.fine ⟨3, id, block, clock, 0, ⟨#[]⟩⟩; exact this)⟩
theorem lv_release (h : Lv w0 m t vs ve w) (id clock : Int) :
    Calls Try.prog 21 #[.pointer (some ⟨m, 0, none⟩), .int .i64 id, .int .i64 clock] w fun e w' => e = .returned (.tuple #[.int .i64 (t.release id clock).2.1, .int .i64 (t.release id clock).2.2]) ∧ Nxt w0 m vs ve w (t.release id clock).1 w' := by
  refine (release_any h.lt id clock).mono ?_
  rintro e w' ⟨rfl, S⟩
  exact ⟨rfl, h.stp S (by have := does_fine h.lt.ok h.fine ⟨4, id, 0, clock, 0, ⟨#[]⟩⟩; exact this)⟩
theorem lv_expire (h : Lv w0 m t vs ve w) (clock : Int) :
    Calls Try.prog 17 #[.pointer (some ⟨m, 0, none⟩), .int .i64 clock] w fun e w' => ∃ v, e = .returned v ∧ w'.ownsRow w.heap.size 29 4 v (t.expire clock).2.length (flatS (t.expire clock).2) ∧ ∃ vs' ve', Lv w0 m (t.expire clock).1 vs' ve' w' ∧ SRow w0 m vs' ve' v (t.expire clock).2 w' ∧ Kp w0 m vs ve w vs' ve' w' := by
  refine (expire_sep h.lt (by have := h.fine.ended; omega) clock).mono ?_
  rintro e w' ⟨v, rfl, h1, vs', ve', L, F, O, hno⟩
  have fn : (t.expire clock).1.Fine := by have := does_fine h.lt.ok h.fine ⟨5, 0, 0, clock, 0, ⟨#[]⟩⟩; exact this
  exact ⟨v, rfl, h1, vs', ve', ⟨L, fn, h.below.trans (F.below h.below.size (fun k hk => (h.lt.own k hk).1))⟩, ⟨ownsRow_base h1 h.below.size, hno⟩, .of F O⟩
theorem lv_store (h : Lv w0 m t vs ve w) (id seq : Int) (reply : ByteArray) :
    Calls Try.prog 23 #[.pointer (some ⟨m, 0, none⟩), .int .i64 id, .int .i64 seq, .string reply] w fun e w' => e = .returned (.int .i64 (t.store id seq reply).2) ∧ Nxt w0 m vs ve w (t.store id seq reply).1 w' := by
  refine (store_any h.lt (fun i _ => h.fine.two i) id seq reply).mono ?_
  rintro e w' ⟨rfl, S⟩
  exact ⟨rfl, h.stp S (by have := does_fine h.lt.ok h.fine ⟨6, id, 0, 0, seq, reply⟩; exact this)⟩
theorem lv_all (h : Lv w0 m t vs ve w) :
    Calls Try.prog 15 #[.pointer (some ⟨m, 0, none⟩)] w fun e w' => ∃ v, e = .returned v ∧ w'.ownsRow w.heap.size 29 4 v t.all.length (flatS t.all) ∧ SRow w0 m vs ve v t.all w' ∧ Below w.heap.size w w' := by
  refine (all_any h.lt).mono ?_
  rintro e w' ⟨v, rfl, h1, h2⟩
  exact ⟨v, rfl, h1, h.new h2 h1, h2⟩
/-- An act, whatever it is. -/
theorem do_any (h : Lv w0 m t vs ve w) (a : Deed) (ha : a.mild) :
    Calls Try.prog 14 #[.pointer (some ⟨m, 0, none⟩), .agg #[.int .i64 a.k, .int .i64 a.id, .int .i64 a.block, .int .i64 a.clock, .int .i64 a.seq, .string a.text]] w fun e w' => ∃ va, e = .returned (.agg (toldC (t.does a).2 va)) ∧ Nxt w0 m vs ve w (t.does a).1 w' ∧ w'.ownsRow w.heap.size 29 4 va (t.does a).2.all.length (flatS (t.does a).2.all) := by
  obtain ⟨_, h1, h2, _, _⟩ := ha
  have key : Calls Try.prog 14 #[.pointer (some ⟨m, 0, none⟩), .agg #[.int .i64 a.k, .int .i64 a.id, .int .i64 a.block, .int .i64 a.clock, .int .i64 a.seq, .string a.text]] w fun e w' => ∃ va, e = .returned (.agg (toldC (t.does a).2 va)) ∧ Stp w0.heap.size m vs ve w (t.does a).1 w' ∧ w'.ownsRow w.heap.size 29 4 va (t.does a).2.all.length (flatS (t.does a).2.all) ∧ ∀ b, va.ownBlock = some b → ¬ OwnL m vs ve b := by
    by_cases k0 : a.k = 0
    · exact do0_any h.lt a k0 ⟨h1, h2⟩
    by_cases k1 : a.k = 1
    · exact do1_any h.lt a k1
    by_cases k2 : a.k = 2
    · exact do2_any h.lt a k2 ⟨h1, h2⟩
    by_cases k3 : a.k = 3
    · exact do3_any h.lt a k3
    by_cases k4 : a.k = 4
    · exact do4_any h.lt a k4
    by_cases k5 : a.k = 5
    · exact do5_any h.lt a k5 (by have := h.fine.ended; omega)
    by_cases k6 : a.k = 6
    · exact do6_any h.lt a k6 (fun i _ => h.fine.two i)
    exact do7_any h.lt a ⟨k0, k1, k2, k3, k4, k5, k6⟩
  refine key.mono ?_
  rintro e w' ⟨va, rfl, S, hr, _⟩
  exact ⟨va, rfl, h.stp S (does_fine h.lt.ok h.fine a), hr⟩
end
end Go.Proofs.Ytjladlniilacjaa
