/-
  The document's example of a model, plainly.
-/
import Derived.Test.YtdahhnefcageeaaMdlDo
namespace Go.Proofs.Mdl
open Go.Proofs.Ytdahhnefcageeaa
def kA : ByteArray := ⟨#[97]⟩
def vA : ByteArray := ⟨#[49]⟩
def eA : Ent := ⟨kA, vA⟩
def cA : Chg := ⟨kA, vA, false⟩
def M0 : Mod := ⟨1, 1, [⟨0, [], [], 0⟩]⟩
def MA : Mod := ⟨1, 2, [⟨1, [eA], [cA], 0⟩]⟩
def MP : Mod := ⟨1, 1, [⟨0, [], [], 1⟩]⟩
def MB : Mod := ⟨1, 2, [⟨0, [], [], 1⟩, ⟨1, [eA], [cA], 0⟩]⟩
theorem wk_new : newM 1 = M0 := by decide
theorem wk_ap : applyM [] [cA] = ([eA], 0) := by decide
theorem wk_df : diffM [] [eA] = [cA] := by
  unfold diffM
  rw [if_pos (by decide), diffL_nc, diffL_nn]
  rfl
theorem wk_v0 : validM M0 = true := by decide
theorem wk_vp : validM MP = true := by decide
theorem wk_vb : validM MB = true := by decide
theorem wk_va : validM MA = true := by decide
theorem wk_no : validM ⟨0, 0, []⟩ = false := by decide
theorem wk_a : commitM M0 [cA] = (MA, 1, 0) := by
  unfold commitM
  rw [wk_v0, if_pos rfl, show (lastV M0).e = [] from rfl, wk_ap, if_pos rfl, if_neg (by decide)]
  unfold addM
  rw [show (lastV M0).e = [] from rfl, wk_df]
  decide
theorem wk_p : pinM M0 (-1) = (MP, 0, 0) := by decide
theorem wk_b : commitM MP [cA] = (MB, 1, 0) := by
  unfold commitM
  rw [wk_vp, if_pos rfl, show (lastV MP).e = [] from rfl, wk_ap, if_pos rfl, if_neg (by decide)]
  unfold addM
  rw [show (lastV MP).e = [] from rfl, wk_df]
  decide
theorem wk_at : atM MB 0 = ([], 0) := by decide
theorem wk_at1 : atM MB 1 = ([eA], 0) := by decide
theorem wk_bt : betweenM MB 0 1 = ([cA], 0) := by
  unfold betweenM
  rw [wk_at, wk_at1, if_pos rfl, if_pos rfl, wk_df]
theorem wk_u : unpinM MB 0 = (MA, 0) := by decide
theorem wk_n : atM MA 0 = ([], 4) := by decide
end Go.Proofs.Mdl
