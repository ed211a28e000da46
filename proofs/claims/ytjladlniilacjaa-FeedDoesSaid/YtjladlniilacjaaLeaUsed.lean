/-
  Package lease: used; append onto a row of one's own, whatever its elements.
-/
import Derived.Test.YtjladlniilacjaaLeaSort
namespace Go.Proofs.Ytjladlniilacjaa
open Go.RowKit Go.Proofs.Lea
set_option linter.unusedVariables false
set_option linter.unusedSimpArgs false
theorem info_partsK {P : Program} {T : TypeId} {z : Value} {k bytes : Nat} (h : (P.info? T).map (fun i => (i.zero, i.size, i.bytes)) = some (some z, k, bytes)) : ∃ i0, P.info? T = some i0 ∧ i0.zero = some z ∧ i0.size = k ∧ i0.bytes = bytes := by
  cases hi : P.info? T with
  | none => rw [hi] at h; simp at h
  | some i =>
    rw [hi] at h
    simp only [Option.map_some, Option.some.injEq, Prod.mk.injEq] at h
    exact ⟨i, rfl, h.1, h.2.1, h.2.2⟩
/-- append, as one operation: onto a row of one's own, of elements of k cells. -/
theorem append_own {T S : TypeId} {z : Value} {k bytes : Nat} (hU : Try.prog.underlying S = some (.slice T)) (hI : (Try.prog.info? T).map (fun i => (i.zero, i.size, i.bytes)) = some (some z, k, bytes)) (hz : z.cells.size = k) (hk : 0 < k) (hby2 : bytes ≤ 100)
    (W : World) (base : Nat) (v : Value) (n : Nat) (xs : List Value) (hown : W.ownsRow base T k v n xs) (b o m c : Nat) (ys : List Value) (hy : ys.length = m * k) (hc : ∀ j y, ys[j]? = some y → W.cell? ⟨b, o + j, none⟩ = some y) (ho : ∀ y ∈ ys, y.oneCell' = true) (hm : n + m ≤ 1000000) (hb : base ≤ W.heap.size) :
    ∃ v' w', (Builtin.append_ #[S, S] S #[v, .slice (some ⟨b, o, none⟩) m c]).run Try.prog W = .ok v' w' ∧ w'.ownsRow base T k v' (n + m) (xs ++ ys) ∧ W.grownBy w' v.ownBlock ∧ (v'.ownBlock = v.ownBlock ∨ v'.ownBlock = some W.heap.size) := by
  obtain ⟨i0, hi, hz0, hz1, hz2⟩ := info_partsK hI
  obtain ⟨v', w', h1, h2, h3, _, h5⟩ := run_append_own_at (P := Try.prog) W base S S T i0 z k bytes hU hi hz0 hz1 hz2 hz hk v n xs hown ⟨b, o, none⟩ m c ys hy (fun j y h => by rw [Addr.add_mid]; exact hc j y h) ho (by simp [maxLen]; omega) (Nat.le_trans (Nat.mul_le_mul hm hby2) (by decide)) hb
  exact ⟨v', w', h1, h2, h3, h5⟩
theorem wpList_append_own {ops : Array Oper} {rest : List Oper} {o : Oper} {a : Act} {Q : Exit → Act → World → Prop} {W : World} {T S : TypeId} {z : Value} {k bytes : Nat} (hU : Try.prog.underlying S = some (.slice T)) (hI : (Try.prog.info? T).map (fun i => (i.zero, i.size, i.bytes)) = some (some z, k, bytes)) (hz : z.cells.size = k) (hk : 0 < k) (hby2 : bytes ≤ 100)
    (hg : Region.wanted o (yielded ops a.tmps) = true) (s x : Operand) (ho : o.op = .call { callee := .builtin .append, args := #[s, x], argTypes := #[S, S] }) (hty : o.type = S) (base : Nat) (v : Value) (n : Nat) (xs : List Value) (b oo m c : Nat) (ys : List Value) (hs : a.eval s = v) (hx : a.eval x = .slice (some ⟨b, oo, none⟩) m c)
    (hown : W.ownsRow base T k v n xs) (hy : ys.length = m * k) (hc : ∀ j y, ys[j]? = some y → W.cell? ⟨b, oo + j, none⟩ = some y) (ho1 : ∀ y ∈ ys, y.oneCell' = true) (hm : n + m ≤ 1000000) (hb : base ≤ W.heap.size)
    (h : ∀ v' w', w'.ownsRow base T k v' (n + m) (xs ++ ys) → W.grownBy w' v.ownBlock → (v'.ownBlock = v.ownBlock ∨ v'.ownBlock = some W.heap.size) → wpList Try.prog ops Q rest (a.put o.dst v') w') : wpList Try.prog ops Q (o :: rest) a W := by
  obtain ⟨v', w', h1, h2, h3, h4⟩ := append_own hU hI hz hk hby2 W base v n xs hown b oo m c ys hy hc ho1 hm hb
  unfold wpList
  rw [if_pos hg]
  left
  unfold Oper.wp execOp
  simp only [ho, hty, resolve, invoke, builtin, Sem.run_bind, Sem.run_pure, Result.andThen_ok, List.map_toArray, List.map_cons, List.map_nil, hs, hx, h1]
  exact h v' w' h2 h3 h4
/-- .. as one step of a region that draws. -/
theorem step_append_own {ops : Array Oper} {o : Oper} {a : Act} {W : World} {K : Act → World → Prop} {Q : Exit → Act → World → Prop} {E : Prop} {T S : TypeId} {z : Value} {k bytes : Nat} (hU : Try.prog.underlying S = some (.slice T)) (hI : (Try.prog.info? T).map (fun i => (i.zero, i.size, i.bytes)) = some (some z, k, bytes)) (hz : z.cells.size = k) (hk : 0 < k) (hby2 : bytes ≤ 100)
    (hg : o.guard = none) (s x : Operand) (ho : o.op = .call { callee := .builtin .append, args := #[s, x], argTypes := #[S, S] }) (hty : o.type = S) (base : Nat) (v : Value) (n : Nat) (xs : List Value) (b oo m c : Nat) (ys : List Value) (hs : a.eval s = v) (hx : a.eval x = .slice (some ⟨b, oo, none⟩) m c)
    (hown : W.ownsRow base T k v n xs) (hy : ys.length = m * k) (hc : ∀ j y, ys[j]? = some y → W.cell? ⟨b, oo + j, none⟩ = some y) (ho1 : ∀ y ∈ ys, y.oneCell' = true) (hm : n + m ≤ 1000000) (hb : base ≤ W.heap.size)
    (h : ∀ v' w', w'.ownsRow base T k v' (n + m) (xs ++ ys) → W.grownBy w' v.ownBlock → (v'.ownBlock = v.ownBlock ∨ v'.ownBlock = some W.heap.size) → K (a.put o.dst v') w') :
    if Region.wanted o (yielded ops a.tmps) = true then Oper.wp Try.prog o a W K Q else E := by
  obtain ⟨v', w', h1, h2, h3, h4⟩ := append_own hU hI hz hk hby2 W base v n xs hown b oo m c ys hy hc ho1 hm hb
  have hw : Region.wanted o (yielded ops a.tmps) = true := by simp [Region.wanted, hg]
  rw [if_pos hw]
  unfold Oper.wp
  simp only [execOp, ho, hty, resolve, invoke, builtin, Sem.run_bind, Sem.run_pure, Result.andThen_ok, List.map_toArray, List.map_cons, List.map_nil, hs, hx, h1]
  exact h v' w' h2 h3 h4
theorem elemSlotP : Try.prog.underlying 93 = some (.slice 95) := by kernel_rfl
theorem infoSlotP : (Try.prog.info? 95).map (fun i => (i.zero, i.size, i.bytes)) = some (some (.pointer none), 1, 8) := by kernel_rfl
/-- Cells that were just laid. -/
theorem new_cells (W : World) (t : TypeId) (cs : List Value) : ∀ j y, cs[j]? = some y → (W.alloc (.cells cs.toArray t)).cell? ⟨W.heap.size, 0 + j, none⟩ = some y := by
  intro j y h
  have := cells_new W t cs j y h
  rw [Addr.add_mid] at this
  exact this
/-- Cells that a slice shows, one behind the other. -/
def Vs (w : World) (A : Option Addr) (xs : List Value) : Prop := xs = [] ∨ ∃ b o, A = some ⟨b, o, none⟩ ∧ b < w.heap.size ∧ ∀ j x, xs[j]? = some x → w.cell? ⟨b, o + j, none⟩ = some x
theorem Vs.below {w w' : World} {A : Option Addr} {xs : List Value} (h : Vs w A xs) (k : Below w.heap.size w w') : Vs w' A xs := by
  rcases h with h | ⟨b, o, rfl, hb, hc⟩
  · exact .inl h
  · exact .inr ⟨b, o, rfl, Nat.lt_of_lt_of_le hb k.size, fun j x hx => (k.cell (p := ⟨b, _, none⟩) hb).trans (hc j x hx)⟩
theorem Vs.at_ {w : World} {A : Option Addr} {xs : List Value} (h : Vs w A xs) (k : Nat) (x : Value) (hk : xs[k]? = some x) : ∃ b o, A = some ⟨b, o, none⟩ ∧ b < w.heap.size ∧ ∀ j x, xs[j]? = some x → w.cell? ⟨b, o + j, none⟩ = some x := by
  rcases h with h | h
  · subst h; simp at hk
  · exact h
theorem Vs.of_own {w : World} {base n k : Nat} {T : TypeId} {v : Value} {xs : List Value} (h : w.ownsRow base T k v n xs) (hx : xs.length = n * k) : ∃ A c, v = .slice A n c ∧ n ≤ c ∧ Vs w A xs := by
  rcases h.2 with ⟨rfl, h2⟩ | ⟨g, cap, cur, rfl, hb, hg, hle, hcap, hs, ht⟩
  · subst h2
    exact ⟨none, 0, rfl, Nat.le_refl _, .inl (by simpa using hx)⟩
  · refine ⟨_, cap, rfl, hle, .inr ⟨g, 0, rfl, (Array.getElem?_eq_some_iff.1 hg).1, fun j x hj => ?_⟩⟩
    have hlt := (List.getElem?_eq_some_iff.1 hj).1
    rw [← ht, List.getElem?_take_of_lt (by omega)] at hj
    simp only [World.cell?, hg, Nat.zero_add]
    simpa using hj
/-- A row of one's own is nil, or a block. -/
theorem own_cases {w : World} {base n : Nat} {T : TypeId} {v : Value} {xs : List Value} (h : w.ownsRow base T 1 v n xs) (hn : n = xs.length) : (v = .slice none 0 0 ∧ xs = []) ∨ ∃ g cap tail, v = .slice (some ⟨g, 0, none⟩) xs.length cap ∧ base ≤ g ∧ Blk w g T (xs ++ tail).toArray ∧ cap = xs.length + tail.length ∧ cap ≤ maxLen := by
  subst hn
  rcases h.2 with ⟨h1, h2⟩ | ⟨k, cap, cur, rfl, hb, hg, hle, hcap, hs, ht⟩
  · exact .inl ⟨h1, List.length_eq_zero_iff.1 h2⟩
  · refine .inr ⟨k, cap, cur.toList.drop xs.length, rfl, hb, ?_, ?_, hcap⟩
    · have : xs ++ cur.toList.drop xs.length = cur.toList := by
        rw [Nat.mul_one] at ht
        have h2 := List.take_append_drop xs.length cur.toList
        rw [ht] at h2
        exact h2
      rw [this, Array.toArray_toList]
      exact hg
    · simp at hs ⊢
      omega
theorem blk_own {w : World} {base g cap n : Nat} {T : TypeId} {xs tail : List Value} (h : Blk w g T (xs ++ tail).toArray) (hb : base ≤ g) (hc : cap = xs.length + tail.length) (hm : cap ≤ maxLen) (hn : n = xs.length) : w.ownsRow base T 1 (.slice (some ⟨g, 0, none⟩) n cap) n xs := by
  subst hn
  refine ⟨by simp, .inr ⟨g, cap, (xs ++ tail).toArray, rfl, hb, h, by omega, hm, by simp [hc], by simp⟩⟩
set_option maxRecDepth 100000 in
set_option maxHeartbeats 2000000 in
theorem used_any (m : Nat) (t : Tbl) (vs : Nat → Value) (ve : Value) (w : World) (hb : Blk w m 92 (tC t vs ve)) :
    Calls Try.prog 42 #[.pointer (some ⟨m, 0, none⟩)] w fun e w' => ∃ v, e = .returned v ∧ w'.ownsRow w.heap.size 95 1 v t.used.length (t.used.map (slotP m)) ∧ Below w.heap.size w w' := by
  have hmlt := hb.lt
  have CELL : Hid (∀ W, Below w.heap.size w W → ∀ k, k < 4 → W.cell? ⟨m, 2 + k * 5, none⟩ = some (.int .i64 (t.id k))) := Lib.hid (fun W h k hk => by rw [(hb.below h).cell]; exact tC_id t vs ve k hk)
  have HM := Lib.hid hmlt
  clear hb hmlt
  go_enter Try.func42, Try.ntmps42
  go_wp2_with fail
  go_loopw [3, 4, 5] (fun vo _ vi wr => ∃ k : Nat, vi = .int .i64 (k : Int) ∧ k ≤ 4 ∧ Hid (wr.ownsRow w.heap.size 95 1 vo (t.rawN k).length ((t.rawN k).map (slotP m))) ∧ Hid (Bl w.heap.size w wr)) (fun _ _ vi _ => 4 - (intOf vi).toNat)
  case atStart => exact ⟨0, rfl, Nat.zero_le _, Lib.hid ⟨rfl, .inl ⟨rfl, rfl⟩⟩, Lib.hid (Bl.start w)⟩
  case round =>
    obtain ⟨k, rfl, hk, HO, HB⟩ := hrel
    by_cases hlt : k < 4
    · have c0 := CELL.out wr HB.out.1 k hlt
      have i1 : (k : Int) < 4 := by omega
      have wk : IntKind.i64.wrap ((k : Int) + 1) = (k : Int) + 1 := IntWalk.i64_in _ (by omega)
      have hs := rawN_succ t k
      have hle := rawN_le t k
      by_cases hz : t.id k = 0
      · rw [if_neg (fun e => e hz)] at hs
        have HS := Lib.hid hs
        rw [hz] at c0
        clear hs hle hz
        go_wp2_with fail
        refine ⟨⟨k + 1, by go_num, by omega, Lib.hid ?_, HB⟩, by simp [intOf]; omega⟩
        rw [HS.out]
        exact HO.out
      · rw [if_pos hz] at hs
        have HS := Lib.hid hs
        obtain ⟨id, hid⟩ : ∃ z, z = t.id k := ⟨_, rfl⟩
        rw [← hid] at c0 hz
        have hz2 : (id != 0) = true := by simpa using hz
        have N1 : Hid ((t.rawN k).length + 1 ≤ 1000000) := Lib.hid (by omega)
        have N2 : Hid (w.heap.size ≤ (wr.alloc (.cells #[.pointer (some ⟨m, 2 + k * 5, none⟩)] 95)).heap.size) := Lib.hid (by have := HB.out.2; simp; omega)
        have B1 : Hid (Bl w.heap.size w (wr.alloc (.cells #[.pointer (some ⟨m, 2 + k * 5, none⟩)] 95))) := Lib.hid (HB.out.alloc _)
        have NC := Lib.hid (new_cells wr 95 [.pointer (some ⟨m, 2 + k * 5, none⟩)])
        clear hs hle hid hz
        go_wp2_with (at_builtin; (refine wpList_append_own (k := 1) (T := 95) (S := 93) elemSlotP infoSlotP rfl (by decide) (by decide) rfl _ _ rfl rfl w.heap.size _ _ ((t.rawN k).map (slotP m)) wr.heap.size 0 1 1 [.pointer (some ⟨m, 2 + k * 5, none⟩)] rfl rfl (World.ownsRow.alloc HO.out _) rfl NC.out (by simp [Value.oneCell']) N1.out N2.out ?_; intro v5 w5 own5 gr5 _; have b5 := B1.out.grownRow (World.ownsRow.alloc HO.out _) (Nat.le_refl _) gr5; have B5 := Lib.hid b5; have O5 := Lib.hid own5; clear own5 gr5 b5))
        refine ⟨⟨k + 1, by go_num, by omega, Lib.hid ?_, B5⟩, by simp [intOf]; omega⟩
        rw [HS.out, List.map_append, List.length_append]
        exact O5.out
    · obtain rfl : k = 4 := by omega
      rcases own_cases HO.out (by simp) with ⟨rfl, hnil⟩ | ⟨g, cap, tail, rfl, hg, hblk, hcap, hmax⟩
      · have hraw : t.raw = [] := (List.map_eq_nil_iff.1 hnil : t.rawN 4 = [])
        have hu : t.used = [] := by unfold Tbl.used; rw [hraw]; rfl
        have HU := Lib.hid hu
        have SN := Lib.hid (sortFunc_nil wr)
        go_wp2_with (go_at_call 64; refine SN.out.mono ?_; rintro e w1 ⟨rfl, rfl⟩)
        go_ret
        refine ⟨_, rfl, ?_, HB.out.1⟩
        rw [HU.out]
        exact ⟨rfl, .inl ⟨rfl, rfl⟩⟩
      · have hcell : ∀ W, Far (fun i => i = g) wr W → ∀ i ∈ t.rawN 4, W.cell? ⟨m, 2 + i * 5, none⟩ = some (.int .i64 (t.id i)) := fun W F i hi =>
          CELL.out W (HB.out.1.trans (F.below (Nat.le_trans (Nat.le_refl _) HB.out.2) (fun j hj => by rw [hj]; exact hg))) i (by unfold Tbl.rawN at hi; simpa using (List.mem_filter.1 hi).1)
        rw [List.length_map] at hcap ⊢
        have SF := Lib.hid (sortFunc_any m g cap t.id (t.rawN 4) tail wr (raw_le t) hblk hcell)
        have HG := Lib.hid hg
        have HCAP := Lib.hid hcap
        have HMAX := Lib.hid hmax
        clear hg hblk hcap hmax hcell
        go_wp2_with (go_at_call 64; refine SF.out.mono ?_; rintro e w1 ⟨rfl, h1, h2⟩; have H1 := Lib.hid h1; have H2 := Lib.hid h2; clear h1 h2)
        go_ret
        refine ⟨_, rfl, ?_, HB.out.1.trans (H2.out.below HB.out.2 (fun j hj => by rw [hj]; exact HG.out))⟩
        have hlen : (t.rawN 4).length = t.used.length := (used_perm t).length_eq.symm
        rw [hlen] at HCAP ⊢
        exact blk_own H1.out HG.out (by rw [HCAP.out]; simp [Tbl.used, Tbl.raw]) HMAX.out (by simp)
end Go.Proofs.Ytjladlniilacjaa
