/-
  slices.Clone of entries, of changes.
-/
import Derived.Test.YtdahhnefcageeaaMdlKeep
import Derived.Lib.SliceRun
namespace Go.Proofs.Ytdahhnefcageeaa
open Go.RowKit Go.Proofs.Mdl
set_option linter.unusedVariables false
set_option linter.unusedSimpArgs false
theorem own_empty (w : World) (T : TypeId) (k : Nat) : (w.alloc (.cells #[] T)).ownsRow w.heap.size T k (.slice (some ⟨w.heap.size, 0, none⟩) 0 0) 0 [] := by
  refine ⟨by simp, .inr ⟨w.heap.size, 0, #[], rfl, Nat.le_refl _, ?_, Nat.le_refl _, by decide, by simp, by simp⟩⟩
  exact Blk.new w T #[]
theorem cloneE_any {N : Nat → Prop} {w : World} {v : Value} {l : List Ent} (h : EsN N w v l) (hl : l.length ≤ 1000) :
    Calls Try.prog 41 #[v] w fun e w' => ∃ v', e = .returned v' ∧ EsN (fun b => w.heap.size ≤ b) w' v' l ∧ Below w.heap.size w w' := by
  obtain ⟨A, c, rfl, hc, hv⟩ := h
  have HV := Lib.hid hv.vs
  have q := fun w a n c n' c' => Lib.run_eql_slice_nil w 43 84 a n c n' c' Try.underlying43
  cases A with
  | none =>
    have hl0 : l = [] := by
      rcases hv with h | ⟨b, o, h, _⟩
      · have := congrArg List.length h
        rw [flatE_length, List.length_nil] at this
        exact List.length_eq_zero_iff.1 (by omega)
      · cases h
    subst hl0
    clear hv
    go_enter Try.func41, Try.ntmps41
    go_wp2_with fail
    go_ret
    exact ⟨_, rfl, EsN.nil _ _, Below.refl _ _⟩
  | some a =>
    clear hv
    go_enter Try.func41, Try.ntmps41
    have OWN := Lib.hid (own_empty w 84 2)
    have BB := Lib.hid ((Bl.start w).alloc (.cells #[] 84))
    have OM := Lib.hid (one_flatE l)
    have LL := Lib.hid (flatE_length l)
    have N1 : Hid (0 + l.length ≤ 1000000) := Lib.hid (by omega)
    have VV := Lib.hid (HV.out.below BB.out.1)
    go_wp2_with (at_builtin; refine wpList_append_shown (k := 2) (T := 84) (S := 43) elemEnts infoEnts rfl (by decide) (by decide) rfl _ _ rfl rfl w.heap.size _ 0 [] (some a) l.length c (flatE l) rfl rfl OWN.out LL.out VV.out OM.out N1.out BB.out.2 ?_; intro v5 wb own5 gr5 _; have b5 := BB.out.grownRow OWN.out (Nat.le_refl _) gr5; have BE := Lib.hid b5; have OE := Lib.hid own5; clear own5 gr5 b5)
    go_ret
    refine ⟨_, rfl, ?_, BE.out.1⟩
    have := OE.out
    rw [Nat.zero_add, List.nil_append] at this
    exact EsN.of_own this (Nat.le_refl _)
theorem cloneC_any {N : Nat → Prop} {w : World} {v : Value} {l : List Chg} (h : CsN N w v l) (hl : l.length ≤ 1000) :
    Calls Try.prog 68 #[v] w fun e w' => ∃ v', e = .returned v' ∧ CsN (fun b => w.heap.size ≤ b) w' v' l ∧ Below w.heap.size w w' := by
  obtain ⟨A, c, rfl, hc, hv⟩ := h
  have HV := Lib.hid hv.vs
  have q := fun w a n c n' c' => Lib.run_eql_slice_nil w 25 67 a n c n' c' Try.underlying25
  cases A with
  | none =>
    have hl0 : l = [] := by
      rcases hv with h | ⟨b, o, h, _⟩
      · have := congrArg List.length h
        rw [flatC_length, List.length_nil] at this
        exact List.length_eq_zero_iff.1 (by omega)
      · cases h
    subst hl0
    clear hv
    go_enter Try.func68, Try.ntmps68
    go_wp2_with fail
    go_ret
    exact ⟨_, rfl, CsN.nil _ _, Below.refl _ _⟩
  | some a =>
    clear hv
    go_enter Try.func68, Try.ntmps68
    have OWN := Lib.hid (own_empty w 67 3)
    have BB := Lib.hid ((Bl.start w).alloc (.cells #[] 67))
    have OM := Lib.hid (one_flatC l)
    have LL := Lib.hid (flatC_length l)
    have N1 : Hid (0 + l.length ≤ 1000000) := Lib.hid (by omega)
    have VV := Lib.hid (HV.out.below BB.out.1)
    go_wp2_with (at_builtin; refine wpList_append_shown (k := 3) (T := 67) (S := 25) elemChg infoChg rfl (by decide) (by decide) rfl _ _ rfl rfl w.heap.size _ 0 [] (some a) l.length c (flatC l) rfl rfl OWN.out LL.out VV.out OM.out N1.out BB.out.2 ?_; intro v5 wb own5 gr5 _; have b5 := BB.out.grownRow OWN.out (Nat.le_refl _) gr5; have BE := Lib.hid b5; have OE := Lib.hid own5; clear own5 gr5 b5)
    go_ret
    refine ⟨_, rfl, ?_, BE.out.1⟩
    have := OE.out
    rw [Nat.zero_add, List.nil_append] at this
    exact CsN.of_own this (Nat.le_refl _)
end Go.Proofs.Ytdahhnefcageeaa
