/-
  Package feed: Push.
-/
import Derived.Test.YtjladlniilacjaaFeePushJ
namespace Go.Proofs.Ytjladlniilacjaa
open Go.RowKit Go.Shelf Go.Proofs.Fee
attribute [local go_sem] Oper.semAt_some
set_option linter.unusedVariables false
set_option linter.unusedSimpArgs false
theorem isAggNs (w : World) : (isAgg 72).run Try.prog w = .ok false w := by kernel_rfl
theorem isAggCs (w : World) : (isAgg 61).run Try.prog w = .ok false w := by kernel_rfl
theorem isAggI (w : World) : (isAgg 3).run Try.prog w = .ok false w := by kernel_rfl
theorem isAggFp (w : World) : (isAgg 53).run Try.prog w = .ok false w := by kernel_rfl
theorem run_append_any {P : Program} {o : Oper} {a : Act} {W W' : World} {v u v' : Value} (S : TypeId) (s x : Operand) (ho : o.op = .call { callee := .builtin .append, args := #[s, x], argTypes := #[S, S] }) (hty : o.type = S) (hs : a.eval s = v) (hx : a.eval x = u)
    (h1 : (Builtin.append_ #[S, S] S #[v, u]).run P W = .ok v' W') : (execOp a.eval o).run P W = .ok (.value v') W' := by
  unfold execOp
  simp only [ho, hty, resolve, invoke, builtin, Sem.run_bind, Sem.run_pure, Result.andThen_ok, List.map_toArray, List.map_cons, List.map_nil, hs, hx, h1]
section
variable {B m mp N : Nat} {t : Tbl} {rs rs' : Keyz Rw} {ks : Keyz Nat} {cn : Array Value} {w W W1 : World} {T : Tbl} {L : List Int} {vL : Value} {s : Int} {z : Rw}
/-- What a round reads, while its queue grows. -/
theorem PJ.later (h : PJ B m mp N rs ks cn w T L rs' vL W) (hx : atK rs' s = some z) (F : Far (fun j => z.v.ownBlock = some j) W W1) : Blk W1 z.b 130 #[.bool z.fol, z.v] ∧ Blk W1 (N + 1) 63 cn ∧ (∀ g c, Blk W g 142 c → W1.heap[g]? = W.heap[g]?) := by
  have hm := atK_some hx
  refine ⟨(h.fd.ft.each _ hm).blk.far F (fun e => h.fd.ft.b_v hm hm e), h.f1.far F (fun e => ?_), fun g c hg => F.block g hg.lt (fun e => h.fd.ft.chg hg (.inr (.inr ⟨_, hm, .inr e⟩)))⟩
  rcases h.own hx (.inr e) with e | e <;> omega
theorem PJ.chs (h : PJ B m mp N rs ks cn w T L rs' vL W) (h0 : Fd B m mp t rs w) {v : Value} {cs : List Chg} (hc : Chs w v cs) : Chs W v cs := hc.same (fun g c hg => h.far.block g hg.lt (h0.ft.chg hg))
/-- A queue that grew by one. -/
theorem PJ.grew (h : PJ B m mp N rs ks cn w T L rs' vL W) (hx : atK rs' s = some z) (b : Bool) {nn : Ntc} {v' v2 : Value} {w2 : World} (own : w2.ownsRow B 63 5 v2 (z.q.length + 1) (flatN z.q ++ cellN (nn, v'))) (F : Far (fun j => z.v.ownBlock = some j) W w2) (hb : v2.ownBlock = z.v.ownBlock ∨ ∃ q, W.heap.size ≤ q ∧ v2.ownBlock = some q) (hc : Chs w2 v' nn.chs) (ok : (T.put s ⟨z.fol, z.row.q ++ [nn]⟩).Ok) :
    PJ B m mp N rs ks cn w (T.put s ⟨z.fol, z.row.q ++ [nn]⟩) L (putK rs' s ⟨z.fol, z.q ++ [(nn, v')], z.b, v2⟩) vL (w2.setCell ⟨z.b, 1, none⟩ v2) ∧ KeepsOthers W (w2.setCell ⟨z.b, 1, none⟩ v2) ∧ Kf (N + 3) m mp (N + 2) W (w2.setCell ⟨z.b, 1, none⟩ v2) := by
  have hm := atK_some hx
  have hr := h.fd.ft.each _ hm
  obtain ⟨l1, l2, l3⟩ := h.later hx F
  have hv2b : ∀ j, v2.ownBlock = some j → j ≠ z.b := fun j hj e => by
    rcases hb with hb | ⟨q, hq, hb⟩
    · exact h.fd.ft.b_v hm hm (by rw [← hb, hj, e])
    · rw [hb] at hj; cases hj; have := hr.blk.lt; simp only at this; omega
  have hrow : (⟨z.fol, z.q ++ [(nn, v')], z.b, v2⟩ : Rw).row = ⟨z.fol, z.row.q ++ [nn]⟩ := by simp [Rw.row]
  rw [← hrow] at ok ⊢
  refine h.turn hx rfl ((F.mono (fun _ _ e => .inr e)).setCell (p := ⟨z.b, 1, none⟩) (fun _ => .inl rfl) _) ⟨?_, ?_, ?_, hr.bB⟩ (fun j hj => ?_) ok
  · exact l1.set 1 v2
  · rw [show (z.q ++ [(nn, v')]).length = z.q.length + 1 by simp, flatN_append, show flatN [(nn, v')] = cellN (nn, v') by simp [flatN]]
    exact own_same own (fun j hj => Below.heap_setCell _ _ _ _ (by simpa using hv2b j hj))
  · intro y hy
    have hsame : ∀ g c, Blk w2 g 142 c → (w2.setCell ⟨z.b, 1, none⟩ v2).heap[g]? = w2.heap[g]? := fun g c hg => Below.heap_setCell _ _ _ _ (by
      intro e
      simp only at e
      rw [e] at hg
      exact absurd (blk_type hg l1) (by decide))
    rcases List.mem_append.1 hy with hy | hy
    · exact ((hr.chs y hy).same l3).same hsame
    · rw [List.mem_singleton.1 hy]
      exact hc.same hsame
  · rcases hb with hb | ⟨q, hq, hb⟩
    · exact .inl (by rw [← hb]; exact hj)
    · simp only at hj
      rw [hb] at hj
      cases hj
      exact .inr hq
end
end Go.Proofs.Ytjladlniilacjaa
