/-
  guillochelaw18.by: any act, as the document says; what a law holds of the document's table.
-/
import Derived.Test.YtjladlniilacjaaFeeBy2
import Derived.Test.YtjladlniilacjaaFeeBy3
import Derived.Test.YtjladlniilacjaaFeeSame
namespace Go.Proofs.Ytjladlniilacjaa
open Go.RowKit Go.Proofs.Fee
set_option linter.unusedVariables false
set_option linter.unusedSimpArgs false
theorem by_any {N : Nat → Prop} {w : World} {v : Value} {t : Tbl} (hN : ∀ k, w.heap.size ≤ k → N k) (h : Rf N w v t) (ok : t.Ok) (hf : t.Full) (a : Deed) (hl : t.rows.length ≤ 1000) :
    Calls Try.prog 30 #[.agg #[.int .i64 (t.room : Int), v], .agg #[.int .i64 a.k, .int .i64 a.s, .int .i64 a.b, .string a.r]] w fun e w' => ∃ v' vl vc, e = .returned (.tuple #[.agg #[.int .i64 (t.room : Int), v'], .agg (toldF (t.does a).2 vl vc)]) ∧ Rf N w' v' (t.does a).1 ∧ Below w.heap.size w w' ∧ w'.ownsRow w.heap.size 3 1 vl (t.does a).2.l.length ((t.does a).2.l.map (Value.int .i64)) ∧ Chs w' vc (t.does a).2.x.chs := by
  by_cases h0 : a.k = 0
  · exact by0_any hN h ok hf _ a hl h0
  · by_cases h1 : a.k = 1
    · exact by1_any hN h ok hf _ a hl h1
    · by_cases h2 : a.k = 2
      · exact by2_any hN h ok hf a hl h2
      · by_cases h3 : a.k = 3
        · exact by3_any hN h ok hf _ a hl h3
        · exact by4_any hN h ok hf _ a hl ⟨h0, h1, h2, h3⟩
section
variable {w0 w w1 : World} {B m mp : Nat} {t t' : Tbl} {rs rs' : Keyz Rw} {N : Nat → Prop}
/-- Blocks that may hold the document's table: none of the feed's, and not the box G. -/
def NR (m mp : Nat) (rs : Keyz Rw) (G : Nat) (b : Nat) : Prop := ¬ OwnF m mp rs b ∧ b ≠ G
theorem Fl.chg (h : Fl w0 B m mp t rs w) (k : Kq m mp rs w rs' w1) : ∀ g c, Blk w g 142 c → w1.heap[g]? = w.heap[g]? := fun g c hg => k.far.block g hg.lt (h.fd.ft.chg hg)
theorem Rf.kq {G : Nat} {v : Value} {t : Tbl} (h : Rf (NR m mp rs G) w v t) (H : Fl w0 B m mp t' rs w) (k : Kq m mp rs w rs' w1) : Rf (NR m mp rs' G) w1 v t :=
  h.keep k.far.size (fun b hb hn => ⟨⟨fun e => by rcases k.new b e with e | e; exact hn.1 e; omega, hn.2⟩, k.far.block b hb hn.1⟩) (H.chg k)
theorem NR.new {G : Nat} (H : Fl w0 B m mp t rs w) (hG : G < w.heap.size) : ∀ k, w.heap.size ≤ k → NR m mp rs G k := fun k hk => ⟨fun e => by have := (H.fd.ft.own k e).2; omega, by omega⟩
/-- The box G is written. -/
theorem Fl.far {S : Nat → Prop} (h : Fl w0 B m mp t rs w) (F : Far S w w1) (hS : ∀ k, OwnF m mp rs k → ¬ S k) (hc : ∀ g c, Blk w g 142 c → ¬ S g) (hB : Below w0.heap.size w0 w1) : Fl w0 B m mp t rs w1 := ⟨⟨h.fd.ft.far F hS hc, h.fd.st, h.fd.ok⟩, h.base, hB⟩
end
theorem Sh.ints {b0 n c : Nat} {A : Option Addr} {w : World} {l : List Int} (h : w.ownsRow b0 3 1 (.slice A n c) l.length (l.map (Value.int .i64))) : n = l.length ∧ Sh Tt w A (l.map (Value.int .i64)) := by
  obtain ⟨A', c', e, _, h3⟩ := Sh.of_own (N := Tt) h (fun _ _ => trivial)
  simp only [Value.slice.injEq] at e
  rw [e.1]
  exact ⟨e.2.1, h3⟩
end Go.Proofs.Ytjladlniilacjaa
