/-
  The law's package for feed: what a law holds of its feed, its blocks, its rows; every call.
-/
import Derived.Test.YtjladlniilacjaaFeeArgs
namespace Go.Proofs.Fee
theorem sub_le {t : Tbl} (h : t.Ok) (s : Int) : (t.sub s).1.rows.length ≤ t.rows.length + 1 := by
  have := does_le h ⟨0, s, 0, e0⟩
  exact this
end Go.Proofs.Fee
namespace Go.Proofs.Ytjladlniilacjaa
open Go.RowKit Go.Proofs.Fee
set_option linter.unusedVariables false
set_option linter.unusedSimpArgs false
/-- A law's feed. -/
structure Fl (w0 : World) (B m mp : Nat) (t : Tbl) (rs : Keyz Rw) (w : World) : Prop where
  fd : Fd B m mp t rs w
  base : w0.heap.size ≤ B
  below : Below w0.heap.size w0 w
/-- A block that a law holds. -/
def FBlk (m mp : Nat) (rs : Keyz Rw) (b : Nat) (T : TypeId) (cs : Array Value) (w : World) : Prop := Blk w b T cs ∧ ¬ OwnF m mp rs b
/-- A row that a law holds. -/
def FRow (m mp : Nat) (rs : Keyz Rw) (b0 : Nat) (T : TypeId) (k : Nat) (v : Value) (n : Nat) (xs : List Value) (w : World) : Prop :=
  w.ownsRow b0 T k v n xs ∧ ∀ b, v.ownBlock = some b → ¬ OwnF m mp rs b
structure Kq (m mp : Nat) (rs : Keyz Rw) (w : World) (rs' : Keyz Rw) (w' : World) : Prop where
  far : Far (OwnF m mp rs) w w'
  new : ∀ k, OwnF m mp rs' k → OwnF m mp rs k ∨ w.heap.size ≤ k
section
variable {w0 w w1 : World} {B m mp : Nat} {t t' : Tbl} {rs rs' : Keyz Rw}
theorem Kq.blk (k : Kq m mp rs w rs' w1) {b : Nat} {T : TypeId} {cs : Array Value} (h : FBlk m mp rs b T cs w) : FBlk m mp rs' b T cs w1 :=
  ⟨h.1.far k.far h.2, fun e => by rcases k.new b e with e | e; exact h.2 e; have := h.1.lt; omega⟩
theorem Kq.row (k : Kq m mp rs w rs' w1) {b0 : Nat} {T : TypeId} {z : Nat} {v : Value} {n : Nat} {xs : List Value} (h : FRow m mp rs b0 T z v n xs w) : FRow m mp rs' b0 T z v n xs w1 :=
  ⟨own_far h.1 k.far h.2, fun b hb e => by rcases k.new b e with e | e; exact h.2 b hb e; have := (h.1.lt b hb).2; omega⟩
theorem FBlk.call {b : Nat} {T : TypeId} {cs : Array Value} (h : FBlk m mp rs b T cs w) (k : Below w.heap.size w w1) : FBlk m mp rs b T cs w1 := ⟨h.1.far (far_of_belowF k) (fun e => e), h.2⟩
theorem FRow.call {b0 : Nat} {T : TypeId} {z : Nat} {v : Value} {n : Nat} {xs : List Value} (h : FRow m mp rs b0 T z v n xs w) (k : Below w.heap.size w w1) : FRow m mp rs b0 T z v n xs w1 := ⟨own_far h.1 (far_of_belowF k) (fun _ _ e => e), h.2⟩
theorem Fl.call (h : Fl w0 B m mp t rs w) (k : Below w.heap.size w w1) : Fl w0 B m mp t rs w1 := ⟨h.fd.below k, h.base, h.below.trans ((far_of_belowF k).below h.below.size (fun _ e => e.elim))⟩
theorem Fl.fs (h : Fl w0 B m mp t rs w) (S : Fs B m mp rs w t' w1) : ∃ rs', Fl w0 B m mp t' rs' w1 ∧ Kq m mp rs w rs' w1 := by
  obtain ⟨rs', L, F, O⟩ := S
  exact ⟨rs', ⟨L, h.base, h.below.trans (F.below h.below.size (fun k hk => Nat.le_trans h.base (h.fd.ft.own k hk).1))⟩, F, O⟩
theorem Fl.nblk (h : Fl w0 B m mp t rs w) (cs : Array Value) (T : TypeId) : FBlk m mp rs w.heap.size T cs (w.alloc (.cells cs T)) := ⟨Blk.new w T cs, fun e => by have := (h.fd.ft.own _ e).2; omega⟩
theorem Fl.alloc (h : Fl w0 B m mp t rs w) (ob : Obj) : Fl w0 B m mp t rs (w.alloc ob) := h.call ((Below.refl _ w).alloc (Nat.le_refl _) ob)
theorem FBlk.alloc {b : Nat} {T : TypeId} {cs : Array Value} (h : FBlk m mp rs b T cs w) (ob : Obj) : FBlk m mp rs b T cs (w.alloc ob) := h.call ((Below.refl _ w).alloc (Nat.le_refl _) ob)
theorem FRow.alloc {b0 : Nat} {T : TypeId} {z : Nat} {v : Value} {n : Nat} {xs : List Value} (h : FRow m mp rs b0 T z v n xs w) (ob : Obj) : FRow m mp rs b0 T z v n xs (w.alloc ob) := h.call ((Below.refl _ w).alloc (Nat.le_refl _) ob)
/-- What is of another kind isn't the feed's. -/
theorem Ft.kind {room : Nat} (h : Ft B m mp room rs w) {g : Nat} {T : TypeId} {c : Array Value} (hg : Blk w g T c) (h1 : T ≠ 114) (h2 : T ≠ 130) (h3 : T ≠ 63) : ¬ OwnF m mp rs g := by
  rintro (rfl | rfl | ⟨p, hp, rfl | hb⟩)
  · exact h1 (blk_type hg h.blk)
  · obtain ⟨es, clock, e⟩ := h.map.obj
    have := hg.symm.trans e
    injection this with this
    cases this
  · exact h2 (blk_type hg (h.each p hp).blk)
  · obtain ⟨cur, hc⟩ := own_type (h.each p hp).row hb
    exact h3 (blk_type hg hc)
theorem Fl.ints (h : Fl w0 B m mp t rs w) {b0 : Nat} {v : Value} {n : Nat} {xs : List Value} (hr : w.ownsRow b0 3 1 v n xs) : FRow m mp rs b0 3 1 v n xs w := by
  refine ⟨hr, fun b hb => ?_⟩
  obtain ⟨cur, hk⟩ := own_type hr hb
  exact Ft.kind h.fd.ft hk (by decide) (by decide) (by decide)
/-- A row of numbers, number by number. -/
theorem ints_at {w : World} {b0 n c : Nat} {A : Option Addr} {l : List Int} (h : w.ownsRow b0 3 1 (.slice A n c) l.length (l.map (Value.int .i64))) {k : Nat} (hk : k < l.length) :
    ∃ g, A = some ⟨g, 0, none⟩ ∧ g < w.heap.size ∧ ∀ (j : Nat) (x : Int), l[j]? = some x → w.cell? ⟨g, j, none⟩ = some (.int .i64 x) := by
  rcases h.2 with ⟨_, h1⟩ | ⟨g, cap, cur, h1, _, h2, _, _, _, h3⟩
  · omega
  · cases h1
    have hb : Blk w g 3 cur := h2
    refine ⟨g, rfl, hb.lt, fun j x hj => ?_⟩
    have hl := (List.getElem?_eq_some_iff.1 hj).1
    rw [hb.cell, ← Array.getElem?_toList]
    have e : (cur.toList.take (l.length * 1))[j]? = some (.int .i64 x) := by rw [h3, List.getElem?_map, hj]; rfl
    rwa [List.getElem?_take_of_lt (by omega)] at e
theorem fl_new (room : Int) (hb : Below w0.heap.size w0 w) : Calls Try.prog 26 #[.int .i64 room] w fun e w' => e = .returned (.pointer (some ⟨w.heap.size + 1, 0, none⟩)) ∧ Fl w0 w.heap.size (w.heap.size + 1) w.heap.size (news room) [] w' ∧ Below w.heap.size w w' := by
  refine (new_feed room w).mono ?_
  rintro e w' ⟨rfl, h, h2⟩
  exact ⟨rfl, ⟨h, hb.size, hb.trans ((far_of_belowF h2.1).below hb.size (fun _ e => e.elim))⟩, h2.1⟩
theorem fl_sub (h : Fl w0 B m mp t rs w) (s : Int) (hs : wfI s) (hn : t.rows.length ≤ 1000) :
    Calls Try.prog 40 #[.pointer (some ⟨m, 0, none⟩), .int .i64 s] w fun e w' => e = .returned (.bool (t.sub s).2) ∧ ∃ rs', Fl w0 B m mp (t.sub s).1 rs' w' ∧ Kq m mp rs w rs' w' := by
  refine (sub_any h.fd s hs (by omega)).mono ?_
  rintro e w' ⟨rfl, S⟩
  exact ⟨rfl, h.fs S⟩
theorem fl_unsub (h : Fl w0 B m mp t rs w) (s : Int) (hs : wfI s) :
    Calls Try.prog 53 #[.pointer (some ⟨m, 0, none⟩), .int .i64 s] w fun e w' => e = .returned (.bool (t.unsub s).2) ∧ ∃ rs', Fl w0 B m mp (t.unsub s).1 rs' w' ∧ Kq m mp rs w rs' w' := by
  refine (unsub_any h.fd s hs).mono ?_
  rintro e w' ⟨rfl, S⟩
  exact ⟨rfl, h.fs S⟩
theorem fl_forget (h : Fl w0 B m mp t rs w) (s : Int) (hs : wfI s) :
    Calls Try.prog 38 #[.pointer (some ⟨m, 0, none⟩), .int .i64 s] w fun e w' => e = .returned (.int .i64 ((t.forget s).2 : Int)) ∧ ∃ rs', Fl w0 B m mp (t.forget s).1 rs' w' ∧ Kq m mp rs w rs' w' := by
  refine (forget_any h.fd s hs).mono ?_
  rintro e w' ⟨rfl, S⟩
  exact ⟨rfl, h.fs S⟩
theorem fl_push (h : Fl w0 B m mp t rs w) (n : Ntc) (A : Option Addr) (k c : Nat) (hch : Chs w (.slice A k c) n.chs) (hcl : n.chs.length ≤ 1000) (hn : t.rows.length ≤ 1000) :
    Calls Try.prog 52 #[.pointer (some ⟨m, 0, none⟩), .agg #[.int .i64 n.ses, .int .i64 n.err, .int .i64 n.block, .string n.root, .slice A k c]] w fun e w' => ∃ v, e = .returned v ∧ ∃ rs', Fl w0 B m mp (t.push n).1 rs' w' ∧ Kq m mp rs w rs' w' ∧ FRow m mp rs' w.heap.size 3 1 v (t.push n).2.length ((t.push n).2.map (Value.int .i64)) w' := by
  refine (push_any h.fd n A k c hch hcl hn).mono ?_
  rintro e w' ⟨v, rfl, hr, S⟩
  obtain ⟨rs', h1, h2⟩ := h.fs S
  exact ⟨v, rfl, rs', h1, h2, h1.ints hr⟩
theorem fl_pop (h : Fl w0 B m mp t rs w) (s : Int) (hs : wfI s) :
    Calls Try.prog 39 #[.pointer (some ⟨m, 0, none⟩), .int .i64 s] w fun e w' => ∃ A k c, e = .returned (.tuple #[.agg #[.int .i64 (t.pop s).2.1.ses, .int .i64 (t.pop s).2.1.err, .int .i64 (t.pop s).2.1.block, .string (t.pop s).2.1.root, .slice A k c], .bool (t.pop s).2.2]) ∧ Chs w' (.slice A k c) (t.pop s).2.1.chs ∧ ∃ rs', Fl w0 B m mp (t.pop s).1 rs' w' ∧ Kq m mp rs w rs' w' := by
  refine (pop_any h.fd s hs).mono ?_
  rintro e w' ⟨v, rfl, hc, S⟩
  obtain ⟨A, k, c, rfl⟩ := hc.slice
  exact ⟨A, k, c, rfl, hc, h.fs S⟩
theorem fl_sessions (h : Fl w0 B m mp t rs w) (hn : t.rows.length ≤ 1000) :
    Calls Try.prog 34 #[.pointer (some ⟨m, 0, none⟩)] w fun e w' => ∃ A c, e = .returned (.slice A t.keys.length c) ∧ Fl w0 B m mp t rs w' ∧ FRow m mp rs w.heap.size 3 1 (.slice A t.keys.length c) t.keys.length (t.keys.map (Value.int .i64)) w' ∧ Below w.heap.size w w' := by
  refine (sessions_any h.fd (by omega)).mono ?_
  rintro e w' ⟨v, rfl, hr, k⟩
  have h1 := h.call k
  obtain ⟨A, c, rfl⟩ := own_shape hr
  exact ⟨A, c, rfl, h1, h1.ints hr, k⟩
/-- An act, whatever it is. -/
theorem fl_do (h : Fl w0 B m mp t rs w) (a : Deed) (hs : wfI a.s) (hn : t.rows.length ≤ 1000) :
    Calls Try.prog 29 #[.pointer (some ⟨m, 0, none⟩), .agg #[.int .i64 a.k, .int .i64 a.s, .int .i64 a.b, .string a.r]] w fun e w' => ∃ vl vc, e = .returned (.agg (toldF (t.does a).2 vl vc)) ∧ ∃ rs', Fl w0 B m mp (t.does a).1 rs' w' ∧ Kq m mp rs w rs' w' ∧ FRow m mp rs' w.heap.size 3 1 vl (t.does a).2.l.length ((t.does a).2.l.map (Value.int .i64)) w' ∧ Chs w' vc (t.does a).2.x.chs := by
  refine (do_any h.fd a hs hn).mono ?_
  rintro e w' ⟨vl, vc, rfl, S, hr, hc⟩
  obtain ⟨rs', h1, h2⟩ := h.fs S
  exact ⟨vl, vc, rfl, rs', h1, h2, h1.ints hr, hc⟩
end
end Go.Proofs.Ytjladlniilacjaa
