/-
  The law's package for feed: what is pushed.
-/
import Derived.Test.YtjladlniilacjaaFeePush
namespace Go.Proofs.Ytjladlniilacjaa
open Go.RowKit Go.Proofs.Fee
set_option linter.unusedVariables false
set_option linter.unusedSimpArgs false
set_option maxRecDepth 100000 in
set_option maxHeartbeats 400000 in
/-- What is pushed. -/
theorem lnotice_any (a : Deed) (w : World) :
    Calls Try.prog 54 #[.agg #[.int .i64 a.k, .int .i64 a.s, .int .i64 a.b, .string a.r]] w fun e w' => ∃ A c, e = .returned (.agg #[.int .i64 77, .int .i64 0, .int .i64 a.b, .string a.r, .slice A 1 c]) ∧ Chs w' (.slice A 1 c) (pushN a).chs ∧ Below w.heap.size w w' := by
  obtain ⟨k, s, b, r⟩ := a
  have hch : (pushN ⟨k, s, b, r⟩).chs = [⟨⟨#[107]⟩, r, false⟩] := rfl
  rw [hch]
  simp only
  clear hch
  go_enter Try.func54, Try.ntmps54
  go_wp2_with fail
  have N1 := Blk.new (w.alloc (.cells #[.int .i64 k, .int .i64 s, .int .i64 b, .string r] 68)) 63 #[.int .i64 77, .int .i64 0, .int .i64 b, .string r, .slice (some ⟨w.heap.size + 1 + 1, 0, none⟩) 1 1]
  have N2 := Blk.new ((w.alloc (.cells #[.int .i64 k, .int .i64 s, .int .i64 b, .string r] 68)).alloc (.cells #[.int .i64 77, .int .i64 0, .int .i64 b, .string r, .slice (some ⟨w.heap.size + 1 + 1, 0, none⟩) 1 1] 63)) 142 #[.string ⟨#[107]⟩, .string r, .bool false]
  have N3 := N1.alloc (.cells #[.string ⟨#[107]⟩, .string r, .bool false] 142)
  simp only [World.size_alloc] at N2 N3
  refine bodyPost_ret (results_ntc (g := w.heap.size + 1) rfl _ _ rfl N3) rfl ⟨some ⟨w.heap.size + 1 + 1, 0, none⟩, 1, rfl, ?_, ((((Bl.start w).alloc _).alloc _).alloc _).1⟩
  exact .inr ⟨_, _, _, rfl, Nat.le_refl _, N2, rfl⟩
end Go.Proofs.Ytjladlniilacjaa
