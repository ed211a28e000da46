/-
  The document's answer for feed (guillocheref18): with.
-/
import Derived.Test.YtjladlniilacjaaFeeRf2
namespace Go.Proofs.Fee
set_option linter.unusedVariables false
section
variable {α : Type}
theorem delK_snoc (l : Keyz α) (p : Int × α) (s : Int) : delK (l ++ [p]) s = delK l s ++ if p.1 = s then [] else [p] := by
  unfold delK
  rw [List.filter_append]
  by_cases h : p.1 = s <;> simp [h]
theorem putK_behind (s : Int) (x : α) : ∀ (l r : Keyz α), (∀ y ∈ l, y.1 < s) → putK (l ++ r) s x = l ++ putK r s x
  | [], r, _ => rfl
  | y :: l, r, h => by
    show (if y.1 < s then y :: putK (l ++ r) s x else _) = _
    rw [if_pos (h y (List.mem_cons_self ..)), putK_behind s x l r (fun z hz => h z (List.mem_cons_of_mem _ hz))]
    rfl
theorem putK_ahead (s : Int) (x : α) (p : Int × α) (hp : s < p.1) : ∀ (l : Keyz α), (∃ y ∈ l, s ≤ y.1) → putK (l ++ [p]) s x = putK l s x ++ [p]
  | [], h => by obtain ⟨y, hy, _⟩ := h; cases hy
  | y :: l, h => by
    show (if y.1 < s then y :: putK (l ++ [p]) s x else if y.1 = s then (s, x) :: (l ++ [p]) else (s, x) :: y :: (l ++ [p])) = (if y.1 < s then y :: putK l s x else if y.1 = s then (s, x) :: l else (s, x) :: y :: l) ++ [p]
    by_cases h1 : y.1 < s
    · rw [if_pos h1, if_pos h1, putK_ahead s x p hp l]
      · rfl
      · obtain ⟨z, hz, hs⟩ := h
        rcases List.mem_cons.1 hz with rfl | hz
        · omega
        · exact ⟨z, hz, hs⟩
    · rw [if_neg h1, if_neg h1]
      by_cases h2 : y.1 = s
      · rw [if_pos h2, if_pos h2]; rfl
      · rw [if_neg h2, if_neg h2]; rfl
/-- How far a row was gone through. -/
def Wst (s : Int) (x : α) (bare : Bool) (l out : Keyz α) (put : Bool) : Prop :=
  (bare = true ∧ put = true ∧ out = delK l s) ∨ (bare = false ∧ put = true ∧ out = putK l s x ∧ ∃ y ∈ l, s ≤ y.1) ∨ (bare = false ∧ put = false ∧ out = l ∧ ∀ y ∈ l, y.1 < s)
variable {s : Int} {x : α} {bare : Bool} {l out : Keyz α} {p : Int × α}
theorem Wst.start (s : Int) (x : α) (bare : Bool) : Wst s x bare [] [] bare := by
  cases bare with
  | true => exact .inl ⟨rfl, rfl, rfl⟩
  | false => exact .inr (.inr ⟨rfl, rfl, rfl, fun y hy => by cases hy⟩)
theorem Up.snoc (h : Up (l ++ [p])) : ∀ y ∈ l, y.1 < p.1 := fun y hy => (List.pairwise_append.1 h).2.2 y hy p (List.mem_singleton.2 rfl)
theorem Wst.same (h : Wst s x bare l out true) (hu : Up (l ++ [p])) (hp : p.1 = s) : Wst s x bare (l ++ [p]) out true := by
  rcases h with ⟨h1, _, h2⟩ | ⟨h1, _, h2, y, hy, hs⟩ | ⟨_, h1, _⟩
  · exact .inl ⟨h1, rfl, by rw [delK_snoc, if_pos hp, List.append_nil, h2]⟩
  · have := hu.snoc y hy
    omega
  · cases h1
theorem Wst.other (h : Wst s x bare l out true) (hu : Up (l ++ [p])) (hp : ¬ p.1 = s) : Wst s x bare (l ++ [p]) (out ++ [p]) true := by
  rcases h with ⟨h1, _, h2⟩ | ⟨h1, _, h2, y, hy, hs⟩ | ⟨_, h1, _⟩
  · exact .inl ⟨h1, rfl, by rw [delK_snoc, if_neg hp, h2]⟩
  · have := hu.snoc y hy
    exact .inr (.inl ⟨h1, rfl, by rw [putK_ahead s x p (by omega) l ⟨y, hy, hs⟩, h2], y, List.mem_append_left _ hy, hs⟩)
  · cases h1
theorem Wst.less (h : Wst s x bare l out false) (hp : p.1 < s) : Wst s x bare (l ++ [p]) (out ++ [p]) false := by
  rcases h with ⟨_, h1, _⟩ | ⟨_, h1, _⟩ | ⟨h1, _, h2, h3⟩
  · cases h1
  · cases h1
  · refine .inr (.inr ⟨h1, rfl, by rw [h2], fun y hy => ?_⟩)
    rcases List.mem_append.1 hy with hy | hy
    · exact h3 y hy
    · rw [List.mem_singleton.1 hy]; exact hp
theorem Wst.hit (h : Wst s x bare l out false) (hp : p.1 = s) : Wst s x bare (l ++ [p]) (out ++ [(s, x)]) true := by
  rcases h with ⟨_, h1, _⟩ | ⟨_, h1, _⟩ | ⟨h1, _, h2, h3⟩
  · cases h1
  · cases h1
  · refine .inr (.inl ⟨h1, rfl, ?_, p, List.mem_append_right _ (List.mem_singleton.2 rfl), by omega⟩)
    rw [putK_behind s x l [p] h3, h2]
    show _ = l ++ (if p.1 < s then _ else if p.1 = s then (s, x) :: [] else _)
    rw [if_neg (by omega), if_pos hp]
theorem Wst.more (h : Wst s x bare l out false) (hp : s < p.1) : Wst s x bare (l ++ [p]) (out ++ [(s, x)] ++ [p]) true := by
  rcases h with ⟨_, h1, _⟩ | ⟨_, h1, _⟩ | ⟨h1, _, h2, h3⟩
  · cases h1
  · cases h1
  · refine .inr (.inl ⟨h1, rfl, ?_, p, List.mem_append_right _ (List.mem_singleton.2 rfl), by omega⟩)
    rw [putK_behind s x l [p] h3, h2]
    show _ = l ++ (if p.1 < s then _ else if p.1 = s then _ else (s, x) :: p :: [])
    rw [if_neg (by omega), if_neg (by omega), List.append_assoc]
    rfl
theorem Wst.done (h : Wst s x bare l out true) : out = if bare = true then delK l s else putK l s x := by
  rcases h with ⟨h1, _, h2⟩ | ⟨h1, _, h2, _⟩ | ⟨_, h1, _⟩
  · rw [if_pos h1, h2]
  · rw [if_neg (by rw [h1]; exact Bool.false_ne_true), h2]
  · cases h1
theorem Wst.last (h : Wst s x bare l out false) : out ++ [(s, x)] = if bare = true then delK l s else putK l s x := by
  rcases h with ⟨_, h1, _⟩ | ⟨_, h1, _⟩ | ⟨h1, _, h2, h3⟩
  · cases h1
  · cases h1
  · rw [if_neg (by rw [h1]; exact Bool.false_ne_true), h2]
    have := putK_behind s x l [] h3
    rw [List.append_nil] at this
    rw [this]
    rfl
theorem Wst.len {put : Bool} (h : Wst s x bare l out put) (hu : Up l) : out.length ≤ l.length + 1 := by
  rcases h with ⟨_, _, h⟩ | ⟨_, _, h, _⟩ | ⟨_, _, h, _⟩
  · rw [h]; exact Nat.le_succ_of_le (delK_le _ _)
  · rw [h]; exact putK_le hu _ _
  · rw [h]; exact Nat.le_succ _
end
end Go.Proofs.Fee
namespace Go.Proofs.Ytjladlniilacjaa
open Go.RowKit Go.Proofs.Fee
set_option linter.unusedVariables false
set_option linter.unusedSimpArgs false
theorem end_with {w W : World} {B f g base k n : Nat} {TF T : TypeId} {v a0 b0 : Value} {xs : List Value} (hR : Blk W g TF #[a0, b0]) (hB : Bl B w W) (hf : B ≤ f) (hg : B ≤ g) (hne : f ≠ g) (hown : W.ownsRow base T k v n xs) (hb : f < base ∧ g < base) (z : Int) :
    Blk (((W.setCell ⟨f, 1, none⟩ v).setCell ⟨g, 0, none⟩ (.int .i64 z)).setCell ⟨g, 1, none⟩ v) g TF #[.int .i64 z, v] ∧ Bl B w (((W.setCell ⟨f, 1, none⟩ v).setCell ⟨g, 0, none⟩ (.int .i64 z)).setCell ⟨g, 1, none⟩ v) ∧
    (((W.setCell ⟨f, 1, none⟩ v).setCell ⟨g, 0, none⟩ (.int .i64 z)).setCell ⟨g, 1, none⟩ v).ownsRow base T k v n xs := by
  obtain ⟨q1, q2, q3⟩ := set2 (hR.other (p := ⟨f, 1, none⟩) (fun e => hne e.symm) v) (hB.setCell (p := ⟨f, 1, none⟩) hf v) hg (.int .i64 z) v
  refine ⟨q1, q2, own_far (own_far hown ((Far.refl (fun i => i = f) W).setCell (p := ⟨f, 1, none⟩) (fun _ => rfl) v) (fun b hb' e => ?_)) q3 (fun b hb' e => ?_)⟩
  · have := (hown.lt b hb').1; omega
  · have := (hown.lt b hb').1; omega
def withF (t : Tbl) (s : Int) (r : Row) : Tbl := if r.bare = true then t.del s else t.put s r
theorem elemLine : Try.prog.underlying 56 = some (.slice 74) := by kernel_rfl
theorem infoLine : (Try.prog.info? 74).map (fun i => (i.zero, i.size, i.bytes)) = some (some (.agg #[.int .i64 0, .bool false, .slice none 0 0]), 3, 40) := by kernel_rfl
theorem flatL_snoc (l : List (Int × Rx)) (p : Int × Rx) : flatL (l ++ [p]) = flatL l ++ lineC p := by rw [flatL_append]; simp [flatL]
theorem rowsX_bare (x : Rx) : x.row.bare = (!x.fol && decide (x.q.length = 0)) := by unfold Row.bare Rx.row; cases x.q <;> simp
set_option maxRecDepth 100000 in
set_option maxHeartbeats 2000000 in
theorem rfwith_any {N : Nat → Prop} {w : World} {v : Value} {t : Tbl} {x : Rx} (hN : ∀ k, w.heap.size ≤ k → N k) (h : Rf N w v t) (hu : Up t.rows) (hx : Lx N w x) (z : Int) (s : Int) (hl : t.rows.length ≤ 1000) :
    Calls Try.prog 71 #[.agg #[.int .i64 z, v], .agg #[.int .i64 s, .bool x.fol, x.v]] w fun e w' => ∃ v', e = .returned (.agg #[.int .i64 z, v']) ∧ Rf N w' v' (withF t s x.row) ∧ Below w.heap.size w w' := by
  obtain ⟨xs, H1, H2⟩ := h
  have hlen : xs.length ≤ 1000 := by rw [rowsX_len H2]; exact hl
  have hux : Up xs := by rw [← H2] at hu; exact (mapK_up _ _).1 hu
  obtain ⟨A, c, rfl⟩ := H1.shape
  obtain ⟨xf, xq, xv⟩ := x
  obtain ⟨B, cx, hxv⟩ := hx.shape
  simp only at hxv
  subst hxv
  have fin : ∀ (w' : World) (v' : Value) (out : List (Int × Rx)) (base : Nat), Below w.heap.size w w' → w.heap.size ≤ base → w'.ownsRow base 74 3 v' out.length (flatL out) → out = (if (!xf && decide (xq.length = 0)) = true then delK xs s else putK xs s ⟨xf, xq, .slice B xq.length cx⟩) → Rf N w' v' (withF t s (Rx.row ⟨xf, xq, .slice B xq.length cx⟩)) := by
    intro w' v' out base hb hbase hown ho
    obtain ⟨A', c', h1, h2, h3⟩ := Sh.of_own (N := N) hown (fun b hb => hN b (by omega))
    refine ⟨out, ⟨⟨A', c', h1, h2, h3⟩, fun p hp => ?_⟩, ?_⟩
    · rw [ho] at hp
      split at hp
      · exact (H1.each p (delK_mem.1 hp).1).below hb
      · rcases (putK_mem hux).1 hp with rfl | ⟨hp, _⟩
        · exact hx.below hb
        · exact (H1.each p hp).below hb
    · rw [ho]
      unfold withF
      rw [rowsX_bare]
      simp only
      split
      · show mapK Rx.row _ = delK t.rows s
        rw [← H2, mapK_del]; rfl
      · show mapK Rx.row _ = putK t.rows s _
        rw [← H2, mapK_put]; rfl
  have FIN := Lib.hid fin
  have HUX := Lib.hid hux
  have b0 := ((((Bl.start w).alloc (.cells #[.int .i64 z, .slice A xs.length c] 58)).alloc (.cells #[.int .i64 s, .bool xf, .slice B xq.length cx] 74)).alloc (.cells #[.int .i64 0, .slice none 0 0] 58))
  have H1' := Lib.hid (H1.below b0.1)
  have BK := Lib.hid (((Blk.new w 58 #[.int .i64 z, .slice A xs.length c]).alloc (.cells #[.int .i64 s, .bool xf, .slice B xq.length cx] 74)).alloc (.cells #[.int .i64 0, .slice none 0 0] 58))
  have BX := Lib.hid (by have := (Blk.new (w.alloc (.cells #[.int .i64 z, .slice A xs.length c] 58)) 74 #[.int .i64 s, .bool xf, .slice B xq.length cx]).alloc (.cells #[.int .i64 0, .slice none 0 0] 58); rwa [World.size_alloc] at this)
  have BR := Lib.hid (by have := Blk.new ((w.alloc (.cells #[.int .i64 z, .slice A xs.length c] 58)).alloc (.cells #[.int .i64 s, .bool xf, .slice B xq.length cx] 74)) 58 #[.int .i64 0, .slice none 0 0]; rwa [World.size_alloc, World.size_alloc] at this)
  have B0 := Lib.hid b0
  clear H1 b0 fin hux hx H2 hu hN hl
  obtain ⟨bare, hbare⟩ : ∃ b, b = (!xf && decide (xq.length = 0)) := ⟨_, rfl⟩
  rw [← hbare] at FIN
  go_enter Try.func71, Try.ntmps71
  rcases hxf : xf with _ | _
  · rw [hxf] at hbare BX B0 BR BK H1'
    have HBA := Lib.hid hbare
    have HXF := Lib.hid hxf
    clear hbare hxf
    go_wp2_with fail
    have SZ : Hid ((((w.alloc (.cells #[.int .i64 z, .slice A xs.length c] 58)).alloc (.cells #[.int .i64 s, .bool false, .slice B xq.length cx] 74)).alloc (.cells #[.int .i64 0, .slice none 0 0] 58)).heap.size = w.heap.size + 1 + 1 + 1) := Lib.hid (by simp)
    generalize ((w.alloc (.cells #[.int .i64 z, .slice A xs.length c] 58)).alloc (.cells #[.int .i64 s, .bool false, .slice B xq.length cx] 74)).alloc (.cells #[.int .i64 0, .slice none 0 0] 58) = w3 at *
    go_loopw [5, 6, 7] (fun vl vp vi wr => ∃ (k : Nat) (put : Bool) (out : List (Int × Rx)), vp = .bool put ∧ vi = .int .i64 (k : Int) ∧ k ≤ xs.length ∧ Hid (Wst s (⟨xf, xq, .slice B xq.length cx⟩ : Rx) bare (xs.take k) out put) ∧ Hid (wr.ownsRow w3.heap.size 74 3 vl out.length (flatL out)) ∧ Hid (Bl w3.heap.size w3 wr)) (fun _ _ vi _ => xs.length - (intOf vi).toNat)
    case atStart =>
      refine ⟨0, bare, [], ?_, rfl, Nat.zero_le _, Lib.hid (Wst.start _ _ _), Lib.hid ⟨rfl, .inl ⟨rfl, rfl⟩⟩, Lib.hid (Bl.start _)⟩
      rw [HBA.out]
      first
        | rfl
        | (congr 1; rw [Bool.eq_iff_iff]; simp)
    case round =>
      rename_i wr
      obtain ⟨k, put, out, rfl, rfl, hk, HWS, HO, HB⟩ := hrel
      by_cases hlt : k < xs.length
      · obtain ⟨p, hx⟩ : ∃ x, xs[k]? = some x := ⟨_, List.getElem?_eq_getElem hlt⟩
        obtain ⟨b, o, c', hv, hbl, d0, d1, d2⟩ := H1'.out.at_ hx
        cases hv
        have i1 : (k : Int) < (xs.length : Int) := by omega
        have wk : IntKind.i64.wrap ((k : Int) + 1) = (k : Int) + 1 := IntWalk.i64_in _ (by omega)
        have LX := Lib.hid (H1'.out.each p (List.mem_of_getElem? hx))
        have TS : Hid (xs.take (k + 1) = xs.take k ++ [p]) := Lib.hid (by rw [List.take_add_one, hx]; rfl)
        have UT : Hid (Up (xs.take k ++ [p])) := Lib.hid (by rw [← TS.out]; exact HUX.out.sublist (List.take_sublist _ _))
        have OL : Hid (out.length ≤ 1001) := Lib.hid (by have := HWS.out.len (HUX.out.sublist (List.take_sublist _ _)); rw [List.length_take] at this; omega)
        obtain ⟨ps, pf, pq, pv⟩ := p
        obtain ⟨A', cq, hv'⟩ := LX.out.shape
        simp only at hv' d0 d1 d2
        subst hv'
        have CL : Hid (∀ W : World, Below w3.heap.size w3 W → W.cell? ⟨w.heap.size, 1, none⟩ = some (.slice (some ⟨b, o, none⟩) xs.length c) ∧ W.cell? ⟨w.heap.size + 1, 0, none⟩ = some (.int .i64 s) ∧ W.cell? ⟨w.heap.size + 1, 1, none⟩ = some (.bool false) ∧ W.cell? ⟨w.heap.size + 1, 2, none⟩ = some (.slice B xq.length cx) ∧ W.cell? ⟨b, o + k * 3, none⟩ = some (.int .i64 ps) ∧ W.cell? ⟨b, o + k * 3 + 1, none⟩ = some (.bool pf) ∧ W.cell? ⟨b, o + k * 3 + 2, none⟩ = some (.slice A' pq.length cq)) := Lib.hid (fun W hW => by
          obtain ⟨x0, x1, x2, _, _, _⟩ := blk3 (BX.out.below hW)
          exact ⟨by rw [(BK.out.below hW).cell]; rfl, x0, x1, x2, (hW.cell (p := ⟨b, _, none⟩) hbl).trans d0, (hW.cell (p := ⟨b, _, none⟩) hbl).trans d1, (hW.cell (p := ⟨b, _, none⟩) hbl).trans d2⟩)
        clear hx hbl d0 d1 d2
        obtain ⟨c1, x0, x1, x2, d0, d1, d2⟩ := CL.out wr HB.out.1
        rcases put with _ | _
        · rcases Int.lt_trichotomy ps s with hc | hc | hc
          · have HC := Lib.hid hc
            have g1 : decide (ps ≥ s) = false := decide_eq_false (by omega)
            have g1b : ¬ s ≤ ps := by omega
            have g2 : (ps == s) = false := by simpa using (by omega : ¬ ps = s)
            have g3 : ¬ ps = s := by omega
            clear hc
            go_wp2_with fail
            go_quiet (fail)
            have HOd0 := Lib.hid (own_drewN HO.out nq)
            have HBd0 := Lib.hid (HB.out.drewN nq)
            clear c1 x0 x1 x2 d0 d1 d2
            clear HO HB
            generalize wr.drewN nq = Wd0 at *
            obtain ⟨c1, x0, x1, x2, d0, d1, d2⟩ := CL.out Wd0 HBd0.out.1
            go_wp2_with fail
            go_quiet (fail)
            have HOd1 := Lib.hid (own_drewN HOd0.out nq)
            have HBd1 := Lib.hid (HBd0.out.drewN nq)
            clear c1 x0 x1 x2 d0 d1 d2
            clear HOd0 HBd0
            generalize Wd0.drewN nq = Wd1 at *
            obtain ⟨c1, x0, x1, x2, d0, d1, d2⟩ := CL.out Wd1 HBd1.out.1
            have Na2 : Hid ((out).length + 1 ≤ 1000000) := Lib.hid (by have := OL.out; simp; omega)
            have Nb2 : Hid (w3.heap.size ≤ (Wd1.alloc (.cells #[.int .i64 ps, .bool pf, .slice A' pq.length cq] 74)).heap.size) := Lib.hid (by have := HBd1.out.2; simp; omega)
            have BA2 : Hid (Bl w3.heap.size w3 (Wd1.alloc (.cells #[.int .i64 ps, .bool pf, .slice A' pq.length cq] 74))) := Lib.hid (HBd1.out.alloc _)
            have NC2 := Lib.hid (new_cells Wd1 74 [.int .i64 ps, .bool pf, .slice A' pq.length cq])
            go_wp2_with (at_builtin; (refine wpList_append_own (k := 3) (T := 74) (S := 56) elemLine infoLine rfl (by decide) (by decide) rfl _ _ rfl rfl w3.heap.size _ _ (flatL (out)) Wd1.heap.size 0 1 1 [.int .i64 ps, .bool pf, .slice A' pq.length cq] rfl rfl (World.ownsRow.alloc HOd1.out _) rfl NC2.out (by simp [Value.oneCell']) Na2.out Nb2.out ?_; intro va2 wa2 owna gra _; have ba := BA2.out.grownRow (World.ownsRow.alloc HOd1.out _) (Nat.le_refl _) gra; have HBa2 := Lib.hid ba; have HOa2 : Hid (wa2.ownsRow w3.heap.size 74 3 va2 (out ++ [(ps, (⟨pf, pq, .slice A' pq.length cq⟩ : Rx))]).length (flatL (out ++ [(ps, (⟨pf, pq, .slice A' pq.length cq⟩ : Rx))]))) := Lib.hid (by rw [flatL_snoc, List.length_append]; exact owna); obtain ⟨c1, x0, x1, x2, d0, d1, d2⟩ := CL.out wa2 ba.1; clear owna gra ba))
            exact ⟨⟨k + 1, false, out ++ [(ps, (⟨pf, pq, .slice A' pq.length cq⟩ : Rx))], by go_num, by go_num, by omega, Lib.hid (by rw [TS.out]; exact HWS.out.less HC.out), HOa2, HBa2⟩, by simp [intOf]; omega⟩
          · have HC := Lib.hid hc
            have g1 : decide (ps ≥ s) = true := decide_eq_true (by omega)
            have g1b : s ≤ ps := by omega
            have g2 : (ps == s) = true := by simpa using hc
            clear hc
            go_wp2_with fail
            go_quiet (fail)
            have HOd0 := Lib.hid (own_drewN HO.out nq)
            have HBd0 := Lib.hid (HB.out.drewN nq)
            clear c1 x0 x1 x2 d0 d1 d2
            clear HO HB
            generalize wr.drewN nq = Wd0 at *
            obtain ⟨c1, x0, x1, x2, d0, d1, d2⟩ := CL.out Wd0 HBd0.out.1
            have Na1 : Hid ((out).length + 1 ≤ 1000000) := Lib.hid (by have := OL.out; simp; omega)
            have Nb1 : Hid (w3.heap.size ≤ (Wd0.alloc (.cells #[.int .i64 s, .bool false, .slice B xq.length cx] 74)).heap.size) := Lib.hid (by have := HBd0.out.2; simp; omega)
            have BA1 : Hid (Bl w3.heap.size w3 (Wd0.alloc (.cells #[.int .i64 s, .bool false, .slice B xq.length cx] 74))) := Lib.hid (HBd0.out.alloc _)
            have NC1 := Lib.hid (new_cells Wd0 74 [.int .i64 s, .bool false, .slice B xq.length cx])
            go_wp2_with (at_builtin; (refine wpList_append_own (k := 3) (T := 74) (S := 56) elemLine infoLine rfl (by decide) (by decide) rfl _ _ rfl rfl w3.heap.size _ _ (flatL (out)) Wd0.heap.size 0 1 1 [.int .i64 s, .bool false, .slice B xq.length cx] rfl rfl (World.ownsRow.alloc HOd0.out _) rfl NC1.out (by simp [Value.oneCell']) Na1.out Nb1.out ?_; intro va1 wa1 owna gra _; have ba := BA1.out.grownRow (World.ownsRow.alloc HOd0.out _) (Nat.le_refl _) gra; have HBa1 := Lib.hid ba; have HOa1 : Hid (wa1.ownsRow w3.heap.size 74 3 va1 (out ++ [(s, (⟨xf, xq, .slice B xq.length cx⟩ : Rx))]).length (flatL (out ++ [(s, (⟨xf, xq, .slice B xq.length cx⟩ : Rx))]))) := Lib.hid (by rw [flatL_snoc, List.length_append]; simp only [lineC, HXF.out]; exact owna); obtain ⟨c1, x0, x1, x2, d0, d1, d2⟩ := CL.out wa1 ba.1; clear owna gra ba))
            go_quiet (fail)
            have HOd2 := Lib.hid (own_drewN HOa1.out nq)
            have HBd2 := Lib.hid (HBa1.out.drewN nq)
            clear c1 x0 x1 x2 d0 d1 d2
            clear HOa1 HBa1
            generalize wa1.drewN nq = Wd2 at *
            obtain ⟨c1, x0, x1, x2, d0, d1, d2⟩ := CL.out Wd2 HBd2.out.1
            go_wp2_with fail
            exact ⟨⟨k + 1, true, out ++ [(s, (⟨xf, xq, .slice B xq.length cx⟩ : Rx))], by go_num, by go_num, by omega, Lib.hid (by rw [TS.out]; exact HWS.out.hit HC.out), HOd2, HBd2⟩, by simp [intOf]; omega⟩
          · have HC := Lib.hid hc
            have g1 : decide (ps ≥ s) = true := decide_eq_true (by omega)
            have g1b : s ≤ ps := by omega
            have g2 : (ps == s) = false := by simpa using (by omega : ¬ ps = s)
            have g3 : ¬ ps = s := by omega
            clear hc
            go_wp2_with fail
            go_quiet (fail)
            have HOd0 := Lib.hid (own_drewN HO.out nq)
            have HBd0 := Lib.hid (HB.out.drewN nq)
            clear c1 x0 x1 x2 d0 d1 d2
            clear HO HB
            generalize wr.drewN nq = Wd0 at *
            obtain ⟨c1, x0, x1, x2, d0, d1, d2⟩ := CL.out Wd0 HBd0.out.1
            have Na1 : Hid ((out).length + 1 ≤ 1000000) := Lib.hid (by have := OL.out; simp; omega)
            have Nb1 : Hid (w3.heap.size ≤ (Wd0.alloc (.cells #[.int .i64 s, .bool false, .slice B xq.length cx] 74)).heap.size) := Lib.hid (by have := HBd0.out.2; simp; omega)
            have BA1 : Hid (Bl w3.heap.size w3 (Wd0.alloc (.cells #[.int .i64 s, .bool false, .slice B xq.length cx] 74))) := Lib.hid (HBd0.out.alloc _)
            have NC1 := Lib.hid (new_cells Wd0 74 [.int .i64 s, .bool false, .slice B xq.length cx])
            go_wp2_with (at_builtin; (refine wpList_append_own (k := 3) (T := 74) (S := 56) elemLine infoLine rfl (by decide) (by decide) rfl _ _ rfl rfl w3.heap.size _ _ (flatL (out)) Wd0.heap.size 0 1 1 [.int .i64 s, .bool false, .slice B xq.length cx] rfl rfl (World.ownsRow.alloc HOd0.out _) rfl NC1.out (by simp [Value.oneCell']) Na1.out Nb1.out ?_; intro va1 wa1 owna gra _; have ba := BA1.out.grownRow (World.ownsRow.alloc HOd0.out _) (Nat.le_refl _) gra; have HBa1 := Lib.hid ba; have HOa1 : Hid (wa1.ownsRow w3.heap.size 74 3 va1 (out ++ [(s, (⟨xf, xq, .slice B xq.length cx⟩ : Rx))]).length (flatL (out ++ [(s, (⟨xf, xq, .slice B xq.length cx⟩ : Rx))]))) := Lib.hid (by rw [flatL_snoc, List.length_append]; simp only [lineC, HXF.out]; exact owna); obtain ⟨c1, x0, x1, x2, d0, d1, d2⟩ := CL.out wa1 ba.1; clear owna gra ba))
            go_quiet (fail)
            have HOd2 := Lib.hid (own_drewN HOa1.out nq)
            have HBd2 := Lib.hid (HBa1.out.drewN nq)
            clear c1 x0 x1 x2 d0 d1 d2
            clear HOa1 HBa1
            generalize wa1.drewN nq = Wd2 at *
            obtain ⟨c1, x0, x1, x2, d0, d1, d2⟩ := CL.out Wd2 HBd2.out.1
            have Na3 : Hid ((out ++ [(s, (⟨xf, xq, .slice B xq.length cx⟩ : Rx))]).length + 1 ≤ 1000000) := Lib.hid (by have := OL.out; simp; omega)
            have Nb3 : Hid (w3.heap.size ≤ (Wd2.alloc (.cells #[.int .i64 ps, .bool pf, .slice A' pq.length cq] 74)).heap.size) := Lib.hid (by have := HBd2.out.2; simp; omega)
            have BA3 : Hid (Bl w3.heap.size w3 (Wd2.alloc (.cells #[.int .i64 ps, .bool pf, .slice A' pq.length cq] 74))) := Lib.hid (HBd2.out.alloc _)
            have NC3 := Lib.hid (new_cells Wd2 74 [.int .i64 ps, .bool pf, .slice A' pq.length cq])
            go_wp2_with (at_builtin; (refine wpList_append_own (k := 3) (T := 74) (S := 56) elemLine infoLine rfl (by decide) (by decide) rfl _ _ rfl rfl w3.heap.size _ _ (flatL (out ++ [(s, (⟨xf, xq, .slice B xq.length cx⟩ : Rx))])) Wd2.heap.size 0 1 1 [.int .i64 ps, .bool pf, .slice A' pq.length cq] rfl rfl (World.ownsRow.alloc HOd2.out _) rfl NC3.out (by simp [Value.oneCell']) Na3.out Nb3.out ?_; intro va3 wa3 owna gra _; have ba := BA3.out.grownRow (World.ownsRow.alloc HOd2.out _) (Nat.le_refl _) gra; have HBa3 := Lib.hid ba; have HOa3 : Hid (wa3.ownsRow w3.heap.size 74 3 va3 (out ++ [(s, (⟨xf, xq, .slice B xq.length cx⟩ : Rx))] ++ [(ps, (⟨pf, pq, .slice A' pq.length cq⟩ : Rx))]).length (flatL (out ++ [(s, (⟨xf, xq, .slice B xq.length cx⟩ : Rx))] ++ [(ps, (⟨pf, pq, .slice A' pq.length cq⟩ : Rx))]))) := Lib.hid (by rw [flatL_snoc, List.length_append]; exact owna); obtain ⟨c1, x0, x1, x2, d0, d1, d2⟩ := CL.out wa3 ba.1; clear owna gra ba))
            exact ⟨⟨k + 1, true, out ++ [(s, (⟨xf, xq, .slice B xq.length cx⟩ : Rx))] ++ [(ps, (⟨pf, pq, .slice A' pq.length cq⟩ : Rx))], by go_num, by go_num, by omega, Lib.hid (by rw [TS.out]; exact HWS.out.more HC.out), HOa3, HBa3⟩, by simp [intOf]; omega⟩
        · by_cases hs : ps = s
          · have HC := Lib.hid hs
            have g2 : (ps == s) = true := by simpa using hs
            clear hs
            go_wp2_with fail
            go_quiet (fail)
            have HOd0 := Lib.hid (own_drewN HO.out nq)
            have HBd0 := Lib.hid (HB.out.drewN nq)
            clear c1 x0 x1 x2 d0 d1 d2
            clear HO HB
            generalize wr.drewN nq = Wd0 at *
            obtain ⟨c1, x0, x1, x2, d0, d1, d2⟩ := CL.out Wd0 HBd0.out.1
            go_wp2_with fail
            go_quiet (fail)
            have HOd1 := Lib.hid (own_drewN HOd0.out nq)
            have HBd1 := Lib.hid (HBd0.out.drewN nq)
            clear c1 x0 x1 x2 d0 d1 d2
            clear HOd0 HBd0
            generalize Wd0.drewN nq = Wd1 at *
            obtain ⟨c1, x0, x1, x2, d0, d1, d2⟩ := CL.out Wd1 HBd1.out.1
            go_wp2_with fail
            exact ⟨⟨k + 1, true, out, by go_num, by go_num, by omega, Lib.hid (by rw [TS.out]; exact HWS.out.same UT.out HC.out), HOd1, HBd1⟩, by simp [intOf]; omega⟩
          · have HC := Lib.hid hs
            have g2 : (ps == s) = false := by simpa using hs
            go_wp2_with fail
            go_quiet (fail)
            have HOd0 := Lib.hid (own_drewN HO.out nq)
            have HBd0 := Lib.hid (HB.out.drewN nq)
            clear c1 x0 x1 x2 d0 d1 d2
            clear HO HB
            generalize wr.drewN nq = Wd0 at *
            obtain ⟨c1, x0, x1, x2, d0, d1, d2⟩ := CL.out Wd0 HBd0.out.1
            go_wp2_with fail
            go_quiet (fail)
            have HOd1 := Lib.hid (own_drewN HOd0.out nq)
            have HBd1 := Lib.hid (HBd0.out.drewN nq)
            clear c1 x0 x1 x2 d0 d1 d2
            clear HOd0 HBd0
            generalize Wd0.drewN nq = Wd1 at *
            obtain ⟨c1, x0, x1, x2, d0, d1, d2⟩ := CL.out Wd1 HBd1.out.1
            have Na2 : Hid ((out).length + 1 ≤ 1000000) := Lib.hid (by have := OL.out; simp; omega)
            have Nb2 : Hid (w3.heap.size ≤ (Wd1.alloc (.cells #[.int .i64 ps, .bool pf, .slice A' pq.length cq] 74)).heap.size) := Lib.hid (by have := HBd1.out.2; simp; omega)
            have BA2 : Hid (Bl w3.heap.size w3 (Wd1.alloc (.cells #[.int .i64 ps, .bool pf, .slice A' pq.length cq] 74))) := Lib.hid (HBd1.out.alloc _)
            have NC2 := Lib.hid (new_cells Wd1 74 [.int .i64 ps, .bool pf, .slice A' pq.length cq])
            go_wp2_with (at_builtin; (refine wpList_append_own (k := 3) (T := 74) (S := 56) elemLine infoLine rfl (by decide) (by decide) rfl _ _ rfl rfl w3.heap.size _ _ (flatL (out)) Wd1.heap.size 0 1 1 [.int .i64 ps, .bool pf, .slice A' pq.length cq] rfl rfl (World.ownsRow.alloc HOd1.out _) rfl NC2.out (by simp [Value.oneCell']) Na2.out Nb2.out ?_; intro va2 wa2 owna gra _; have ba := BA2.out.grownRow (World.ownsRow.alloc HOd1.out _) (Nat.le_refl _) gra; have HBa2 := Lib.hid ba; have HOa2 : Hid (wa2.ownsRow w3.heap.size 74 3 va2 (out ++ [(ps, (⟨pf, pq, .slice A' pq.length cq⟩ : Rx))]).length (flatL (out ++ [(ps, (⟨pf, pq, .slice A' pq.length cq⟩ : Rx))]))) := Lib.hid (by rw [flatL_snoc, List.length_append]; exact owna); obtain ⟨c1, x0, x1, x2, d0, d1, d2⟩ := CL.out wa2 ba.1; clear owna gra ba))
            exact ⟨⟨k + 1, true, out ++ [(ps, (⟨pf, pq, .slice A' pq.length cq⟩ : Rx))], by go_num, by go_num, by omega, Lib.hid (by rw [TS.out]; exact HWS.out.other UT.out HC.out), HOa2, HBa2⟩, by simp [intOf]; omega⟩
      · obtain rfl : k = xs.length := by omega
        obtain ⟨c1, x0, x1, x2⟩ : wr.cell? ⟨w.heap.size, 1, none⟩ = some (.slice A xs.length c) ∧ wr.cell? ⟨w.heap.size + 1, 0, none⟩ = some (.int .i64 s) ∧ wr.cell? ⟨w.heap.size + 1, 1, none⟩ = some (.bool false) ∧ wr.cell? ⟨w.heap.size + 1, 2, none⟩ = some (.slice B xq.length cx) := by
          obtain ⟨x0, x1, x2, _, _, _⟩ := blk3 (BX.out.below HB.out.1)
          exact ⟨by rw [(BK.out.below HB.out.1).cell]; rfl, x0, x1, x2⟩
        have OL : Hid (out.length ≤ 1001) := Lib.hid (by have := HWS.out.len (HUX.out.sublist (List.take_sublist _ _)); rw [List.length_take] at this; omega)
        have HWS2 : Hid (Wst s (⟨xf, xq, .slice B xq.length cx⟩ : Rx) bare xs out put) := Lib.hid (by have := HWS.out; rwa [List.take_length] at this)
        rcases put with _ | _
        · skip
          have Na0 : Hid ((out).length + 1 ≤ 1000000) := Lib.hid (by have := OL.out; simp; omega)
          have Nb0 : Hid (w3.heap.size ≤ (wr.alloc (.cells #[.int .i64 s, .bool false, .slice B xq.length cx] 74)).heap.size) := Lib.hid (by have := HB.out.2; simp; omega)
          have BA0 : Hid (Bl w3.heap.size w3 (wr.alloc (.cells #[.int .i64 s, .bool false, .slice B xq.length cx] 74))) := Lib.hid (HB.out.alloc _)
          have NC0 := Lib.hid (new_cells wr 74 [.int .i64 s, .bool false, .slice B xq.length cx])
          go_wp2_with (at_builtin; (refine wpList_append_own (k := 3) (T := 74) (S := 56) elemLine infoLine rfl (by decide) (by decide) rfl _ _ rfl rfl w3.heap.size _ _ (flatL (out)) wr.heap.size 0 1 1 [.int .i64 s, .bool false, .slice B xq.length cx] rfl rfl (World.ownsRow.alloc HO.out _) rfl NC0.out (by simp [Value.oneCell']) Na0.out Nb0.out ?_; intro va0 wa0 owna gra _; have ba := BA0.out.grownRow (World.ownsRow.alloc HO.out _) (Nat.le_refl _) gra; have HBa0 := Lib.hid ba; have HOa0 : Hid (wa0.ownsRow w3.heap.size 74 3 va0 (out ++ [(s, (⟨xf, xq, .slice B xq.length cx⟩ : Rx))]).length (flatL (out ++ [(s, (⟨xf, xq, .slice B xq.length cx⟩ : Rx))]))) := Lib.hid (by rw [flatL_snoc, List.length_append]; simp only [lineC, HXF.out]; exact owna); obtain ⟨Ao, co, hvo⟩ := own_shape owna; subst hvo; obtain ⟨y0, y1, fy0, fy1⟩ := blk2 (BK.out.below ba.1); obtain ⟨r0, r1, fr0, fr1⟩ := blk2 (BR.out.below ba.1); clear owna gra ba))
          obtain ⟨q1, q2, q3⟩ := end_with (BR.out.below HBa0.out.1) (B0.out.call HBa0.out.1) (f := w.heap.size) (g := w.heap.size + 1 + 1) (Nat.le_refl _) (by omega) (by omega) HOa0.out (by rw [SZ.out]; omega) z
          exact bodyPost_ret (results_f1 rfl _ _ _ rfl q1) rfl ⟨_, rfl, (by have := FIN.out _ _ _ w3.heap.size q2.1 (by rw [SZ.out]; omega) q3 (HWS2.out.last); rwa [HXF.out] at this), q2.1⟩
        · obtain ⟨y0, y1, fy0, fy1⟩ := blk2 (BK.out.below HB.out.1)
          obtain ⟨r0, r1, fr0, fr1⟩ := blk2 (BR.out.below HB.out.1)
          obtain ⟨Ao, co, rfl⟩ := own_shape HO.out
          go_wp2_with fail
          obtain ⟨q1, q2, q3⟩ := end_with (BR.out.below HB.out.1) (B0.out.call HB.out.1) (f := w.heap.size) (g := w.heap.size + 1 + 1) (Nat.le_refl _) (by omega) (by omega) HO.out (by rw [SZ.out]; omega) z
          exact bodyPost_ret (results_f1 rfl _ _ _ rfl q1) rfl ⟨_, rfl, (by have := FIN.out _ _ _ w3.heap.size q2.1 (by rw [SZ.out]; omega) q3 (HWS2.out.done); rwa [HXF.out] at this), q2.1⟩
  · rw [hxf] at hbare BX B0 BR BK H1'
    have HBA := Lib.hid hbare
    have HXF := Lib.hid hxf
    clear hbare hxf
    go_wp2_with fail
    have SZ : Hid ((((w.alloc (.cells #[.int .i64 z, .slice A xs.length c] 58)).alloc (.cells #[.int .i64 s, .bool true, .slice B xq.length cx] 74)).alloc (.cells #[.int .i64 0, .slice none 0 0] 58)).heap.size = w.heap.size + 1 + 1 + 1) := Lib.hid (by simp)
    generalize ((w.alloc (.cells #[.int .i64 z, .slice A xs.length c] 58)).alloc (.cells #[.int .i64 s, .bool true, .slice B xq.length cx] 74)).alloc (.cells #[.int .i64 0, .slice none 0 0] 58) = w3 at *
    go_loopw [5, 6, 7] (fun vl vp vi wr => ∃ (k : Nat) (put : Bool) (out : List (Int × Rx)), vp = .bool put ∧ vi = .int .i64 (k : Int) ∧ k ≤ xs.length ∧ Hid (Wst s (⟨xf, xq, .slice B xq.length cx⟩ : Rx) bare (xs.take k) out put) ∧ Hid (wr.ownsRow w3.heap.size 74 3 vl out.length (flatL out)) ∧ Hid (Bl w3.heap.size w3 wr)) (fun _ _ vi _ => xs.length - (intOf vi).toNat)
    case atStart =>
      refine ⟨0, bare, [], ?_, rfl, Nat.zero_le _, Lib.hid (Wst.start _ _ _), Lib.hid ⟨rfl, .inl ⟨rfl, rfl⟩⟩, Lib.hid (Bl.start _)⟩
      rw [HBA.out]
      first
        | rfl
        | (congr 1; rw [Bool.eq_iff_iff]; simp)
    case round =>
      rename_i wr
      obtain ⟨k, put, out, rfl, rfl, hk, HWS, HO, HB⟩ := hrel
      by_cases hlt : k < xs.length
      · obtain ⟨p, hx⟩ : ∃ x, xs[k]? = some x := ⟨_, List.getElem?_eq_getElem hlt⟩
        obtain ⟨b, o, c', hv, hbl, d0, d1, d2⟩ := H1'.out.at_ hx
        cases hv
        have i1 : (k : Int) < (xs.length : Int) := by omega
        have wk : IntKind.i64.wrap ((k : Int) + 1) = (k : Int) + 1 := IntWalk.i64_in _ (by omega)
        have LX := Lib.hid (H1'.out.each p (List.mem_of_getElem? hx))
        have TS : Hid (xs.take (k + 1) = xs.take k ++ [p]) := Lib.hid (by rw [List.take_add_one, hx]; rfl)
        have UT : Hid (Up (xs.take k ++ [p])) := Lib.hid (by rw [← TS.out]; exact HUX.out.sublist (List.take_sublist _ _))
        have OL : Hid (out.length ≤ 1001) := Lib.hid (by have := HWS.out.len (HUX.out.sublist (List.take_sublist _ _)); rw [List.length_take] at this; omega)
        obtain ⟨ps, pf, pq, pv⟩ := p
        obtain ⟨A', cq, hv'⟩ := LX.out.shape
        simp only at hv' d0 d1 d2
        subst hv'
        have CL : Hid (∀ W : World, Below w3.heap.size w3 W → W.cell? ⟨w.heap.size, 1, none⟩ = some (.slice (some ⟨b, o, none⟩) xs.length c) ∧ W.cell? ⟨w.heap.size + 1, 0, none⟩ = some (.int .i64 s) ∧ W.cell? ⟨w.heap.size + 1, 1, none⟩ = some (.bool true) ∧ W.cell? ⟨w.heap.size + 1, 2, none⟩ = some (.slice B xq.length cx) ∧ W.cell? ⟨b, o + k * 3, none⟩ = some (.int .i64 ps) ∧ W.cell? ⟨b, o + k * 3 + 1, none⟩ = some (.bool pf) ∧ W.cell? ⟨b, o + k * 3 + 2, none⟩ = some (.slice A' pq.length cq)) := Lib.hid (fun W hW => by
          obtain ⟨x0, x1, x2, _, _, _⟩ := blk3 (BX.out.below hW)
          exact ⟨by rw [(BK.out.below hW).cell]; rfl, x0, x1, x2, (hW.cell (p := ⟨b, _, none⟩) hbl).trans d0, (hW.cell (p := ⟨b, _, none⟩) hbl).trans d1, (hW.cell (p := ⟨b, _, none⟩) hbl).trans d2⟩)
        clear hx hbl d0 d1 d2
        obtain ⟨c1, x0, x1, x2, d0, d1, d2⟩ := CL.out wr HB.out.1
        rcases put with _ | _
        · rcases Int.lt_trichotomy ps s with hc | hc | hc
          · have HC := Lib.hid hc
            have g1 : decide (ps ≥ s) = false := decide_eq_false (by omega)
            have g1b : ¬ s ≤ ps := by omega
            have g2 : (ps == s) = false := by simpa using (by omega : ¬ ps = s)
            have g3 : ¬ ps = s := by omega
            clear hc
            go_wp2_with fail
            go_quiet (fail)
            have HOd0 := Lib.hid (own_drewN HO.out nq)
            have HBd0 := Lib.hid (HB.out.drewN nq)
            clear c1 x0 x1 x2 d0 d1 d2
            clear HO HB
            generalize wr.drewN nq = Wd0 at *
            obtain ⟨c1, x0, x1, x2, d0, d1, d2⟩ := CL.out Wd0 HBd0.out.1
            go_wp2_with fail
            go_quiet (fail)
            have HOd1 := Lib.hid (own_drewN HOd0.out nq)
            have HBd1 := Lib.hid (HBd0.out.drewN nq)
            clear c1 x0 x1 x2 d0 d1 d2
            clear HOd0 HBd0
            generalize Wd0.drewN nq = Wd1 at *
            obtain ⟨c1, x0, x1, x2, d0, d1, d2⟩ := CL.out Wd1 HBd1.out.1
            have Na2 : Hid ((out).length + 1 ≤ 1000000) := Lib.hid (by have := OL.out; simp; omega)
            have Nb2 : Hid (w3.heap.size ≤ (Wd1.alloc (.cells #[.int .i64 ps, .bool pf, .slice A' pq.length cq] 74)).heap.size) := Lib.hid (by have := HBd1.out.2; simp; omega)
            have BA2 : Hid (Bl w3.heap.size w3 (Wd1.alloc (.cells #[.int .i64 ps, .bool pf, .slice A' pq.length cq] 74))) := Lib.hid (HBd1.out.alloc _)
            have NC2 := Lib.hid (new_cells Wd1 74 [.int .i64 ps, .bool pf, .slice A' pq.length cq])
            go_wp2_with (at_builtin; (refine wpList_append_own (k := 3) (T := 74) (S := 56) elemLine infoLine rfl (by decide) (by decide) rfl _ _ rfl rfl w3.heap.size _ _ (flatL (out)) Wd1.heap.size 0 1 1 [.int .i64 ps, .bool pf, .slice A' pq.length cq] rfl rfl (World.ownsRow.alloc HOd1.out _) rfl NC2.out (by simp [Value.oneCell']) Na2.out Nb2.out ?_; intro va2 wa2 owna gra _; have ba := BA2.out.grownRow (World.ownsRow.alloc HOd1.out _) (Nat.le_refl _) gra; have HBa2 := Lib.hid ba; have HOa2 : Hid (wa2.ownsRow w3.heap.size 74 3 va2 (out ++ [(ps, (⟨pf, pq, .slice A' pq.length cq⟩ : Rx))]).length (flatL (out ++ [(ps, (⟨pf, pq, .slice A' pq.length cq⟩ : Rx))]))) := Lib.hid (by rw [flatL_snoc, List.length_append]; exact owna); obtain ⟨c1, x0, x1, x2, d0, d1, d2⟩ := CL.out wa2 ba.1; clear owna gra ba))
            exact ⟨⟨k + 1, false, out ++ [(ps, (⟨pf, pq, .slice A' pq.length cq⟩ : Rx))], by go_num, by go_num, by omega, Lib.hid (by rw [TS.out]; exact HWS.out.less HC.out), HOa2, HBa2⟩, by simp [intOf]; omega⟩
          · have HC := Lib.hid hc
            have g1 : decide (ps ≥ s) = true := decide_eq_true (by omega)
            have g1b : s ≤ ps := by omega
            have g2 : (ps == s) = true := by simpa using hc
            clear hc
            go_wp2_with fail
            go_quiet (fail)
            have HOd0 := Lib.hid (own_drewN HO.out nq)
            have HBd0 := Lib.hid (HB.out.drewN nq)
            clear c1 x0 x1 x2 d0 d1 d2
            clear HO HB
            generalize wr.drewN nq = Wd0 at *
            obtain ⟨c1, x0, x1, x2, d0, d1, d2⟩ := CL.out Wd0 HBd0.out.1
            have Na1 : Hid ((out).length + 1 ≤ 1000000) := Lib.hid (by have := OL.out; simp; omega)
            have Nb1 : Hid (w3.heap.size ≤ (Wd0.alloc (.cells #[.int .i64 s, .bool true, .slice B xq.length cx] 74)).heap.size) := Lib.hid (by have := HBd0.out.2; simp; omega)
            have BA1 : Hid (Bl w3.heap.size w3 (Wd0.alloc (.cells #[.int .i64 s, .bool true, .slice B xq.length cx] 74))) := Lib.hid (HBd0.out.alloc _)
            have NC1 := Lib.hid (new_cells Wd0 74 [.int .i64 s, .bool true, .slice B xq.length cx])
            go_wp2_with (at_builtin; (refine wpList_append_own (k := 3) (T := 74) (S := 56) elemLine infoLine rfl (by decide) (by decide) rfl _ _ rfl rfl w3.heap.size _ _ (flatL (out)) Wd0.heap.size 0 1 1 [.int .i64 s, .bool true, .slice B xq.length cx] rfl rfl (World.ownsRow.alloc HOd0.out _) rfl NC1.out (by simp [Value.oneCell']) Na1.out Nb1.out ?_; intro va1 wa1 owna gra _; have ba := BA1.out.grownRow (World.ownsRow.alloc HOd0.out _) (Nat.le_refl _) gra; have HBa1 := Lib.hid ba; have HOa1 : Hid (wa1.ownsRow w3.heap.size 74 3 va1 (out ++ [(s, (⟨xf, xq, .slice B xq.length cx⟩ : Rx))]).length (flatL (out ++ [(s, (⟨xf, xq, .slice B xq.length cx⟩ : Rx))]))) := Lib.hid (by rw [flatL_snoc, List.length_append]; simp only [lineC, HXF.out]; exact owna); obtain ⟨c1, x0, x1, x2, d0, d1, d2⟩ := CL.out wa1 ba.1; clear owna gra ba))
            go_quiet (fail)
            have HOd2 := Lib.hid (own_drewN HOa1.out nq)
            have HBd2 := Lib.hid (HBa1.out.drewN nq)
            clear c1 x0 x1 x2 d0 d1 d2
            clear HOa1 HBa1
            generalize wa1.drewN nq = Wd2 at *
            obtain ⟨c1, x0, x1, x2, d0, d1, d2⟩ := CL.out Wd2 HBd2.out.1
            go_wp2_with fail
            exact ⟨⟨k + 1, true, out ++ [(s, (⟨xf, xq, .slice B xq.length cx⟩ : Rx))], by go_num, by go_num, by omega, Lib.hid (by rw [TS.out]; exact HWS.out.hit HC.out), HOd2, HBd2⟩, by simp [intOf]; omega⟩
          · have HC := Lib.hid hc
            have g1 : decide (ps ≥ s) = true := decide_eq_true (by omega)
            have g1b : s ≤ ps := by omega
            have g2 : (ps == s) = false := by simpa using (by omega : ¬ ps = s)
            have g3 : ¬ ps = s := by omega
            clear hc
            go_wp2_with fail
            go_quiet (fail)
            have HOd0 := Lib.hid (own_drewN HO.out nq)
            have HBd0 := Lib.hid (HB.out.drewN nq)
            clear c1 x0 x1 x2 d0 d1 d2
            clear HO HB
            generalize wr.drewN nq = Wd0 at *
            obtain ⟨c1, x0, x1, x2, d0, d1, d2⟩ := CL.out Wd0 HBd0.out.1
            have Na1 : Hid ((out).length + 1 ≤ 1000000) := Lib.hid (by have := OL.out; simp; omega)
            have Nb1 : Hid (w3.heap.size ≤ (Wd0.alloc (.cells #[.int .i64 s, .bool true, .slice B xq.length cx] 74)).heap.size) := Lib.hid (by have := HBd0.out.2; simp; omega)
            have BA1 : Hid (Bl w3.heap.size w3 (Wd0.alloc (.cells #[.int .i64 s, .bool true, .slice B xq.length cx] 74))) := Lib.hid (HBd0.out.alloc _)
            have NC1 := Lib.hid (new_cells Wd0 74 [.int .i64 s, .bool true, .slice B xq.length cx])
            go_wp2_with (at_builtin; (refine wpList_append_own (k := 3) (T := 74) (S := 56) elemLine infoLine rfl (by decide) (by decide) rfl _ _ rfl rfl w3.heap.size _ _ (flatL (out)) Wd0.heap.size 0 1 1 [.int .i64 s, .bool true, .slice B xq.length cx] rfl rfl (World.ownsRow.alloc HOd0.out _) rfl NC1.out (by simp [Value.oneCell']) Na1.out Nb1.out ?_; intro va1 wa1 owna gra _; have ba := BA1.out.grownRow (World.ownsRow.alloc HOd0.out _) (Nat.le_refl _) gra; have HBa1 := Lib.hid ba; have HOa1 : Hid (wa1.ownsRow w3.heap.size 74 3 va1 (out ++ [(s, (⟨xf, xq, .slice B xq.length cx⟩ : Rx))]).length (flatL (out ++ [(s, (⟨xf, xq, .slice B xq.length cx⟩ : Rx))]))) := Lib.hid (by rw [flatL_snoc, List.length_append]; simp only [lineC, HXF.out]; exact owna); obtain ⟨c1, x0, x1, x2, d0, d1, d2⟩ := CL.out wa1 ba.1; clear owna gra ba))
            go_quiet (fail)
            have HOd2 := Lib.hid (own_drewN HOa1.out nq)
            have HBd2 := Lib.hid (HBa1.out.drewN nq)
            clear c1 x0 x1 x2 d0 d1 d2
            clear HOa1 HBa1
            generalize wa1.drewN nq = Wd2 at *
            obtain ⟨c1, x0, x1, x2, d0, d1, d2⟩ := CL.out Wd2 HBd2.out.1
            have Na3 : Hid ((out ++ [(s, (⟨xf, xq, .slice B xq.length cx⟩ : Rx))]).length + 1 ≤ 1000000) := Lib.hid (by have := OL.out; simp; omega)
            have Nb3 : Hid (w3.heap.size ≤ (Wd2.alloc (.cells #[.int .i64 ps, .bool pf, .slice A' pq.length cq] 74)).heap.size) := Lib.hid (by have := HBd2.out.2; simp; omega)
            have BA3 : Hid (Bl w3.heap.size w3 (Wd2.alloc (.cells #[.int .i64 ps, .bool pf, .slice A' pq.length cq] 74))) := Lib.hid (HBd2.out.alloc _)
            have NC3 := Lib.hid (new_cells Wd2 74 [.int .i64 ps, .bool pf, .slice A' pq.length cq])
            go_wp2_with (at_builtin; (refine wpList_append_own (k := 3) (T := 74) (S := 56) elemLine infoLine rfl (by decide) (by decide) rfl _ _ rfl rfl w3.heap.size _ _ (flatL (out ++ [(s, (⟨xf, xq, .slice B xq.length cx⟩ : Rx))])) Wd2.heap.size 0 1 1 [.int .i64 ps, .bool pf, .slice A' pq.length cq] rfl rfl (World.ownsRow.alloc HOd2.out _) rfl NC3.out (by simp [Value.oneCell']) Na3.out Nb3.out ?_; intro va3 wa3 owna gra _; have ba := BA3.out.grownRow (World.ownsRow.alloc HOd2.out _) (Nat.le_refl _) gra; have HBa3 := Lib.hid ba; have HOa3 : Hid (wa3.ownsRow w3.heap.size 74 3 va3 (out ++ [(s, (⟨xf, xq, .slice B xq.length cx⟩ : Rx))] ++ [(ps, (⟨pf, pq, .slice A' pq.length cq⟩ : Rx))]).length (flatL (out ++ [(s, (⟨xf, xq, .slice B xq.length cx⟩ : Rx))] ++ [(ps, (⟨pf, pq, .slice A' pq.length cq⟩ : Rx))]))) := Lib.hid (by rw [flatL_snoc, List.length_append]; exact owna); obtain ⟨c1, x0, x1, x2, d0, d1, d2⟩ := CL.out wa3 ba.1; clear owna gra ba))
            exact ⟨⟨k + 1, true, out ++ [(s, (⟨xf, xq, .slice B xq.length cx⟩ : Rx))] ++ [(ps, (⟨pf, pq, .slice A' pq.length cq⟩ : Rx))], by go_num, by go_num, by omega, Lib.hid (by rw [TS.out]; exact HWS.out.more HC.out), HOa3, HBa3⟩, by simp [intOf]; omega⟩
        · by_cases hs : ps = s
          · have HC := Lib.hid hs
            have g2 : (ps == s) = true := by simpa using hs
            clear hs
            go_wp2_with fail
            go_quiet (fail)
            have HOd0 := Lib.hid (own_drewN HO.out nq)
            have HBd0 := Lib.hid (HB.out.drewN nq)
            clear c1 x0 x1 x2 d0 d1 d2
            clear HO HB
            generalize wr.drewN nq = Wd0 at *
            obtain ⟨c1, x0, x1, x2, d0, d1, d2⟩ := CL.out Wd0 HBd0.out.1
            go_wp2_with fail
            go_quiet (fail)
            have HOd1 := Lib.hid (own_drewN HOd0.out nq)
            have HBd1 := Lib.hid (HBd0.out.drewN nq)
            clear c1 x0 x1 x2 d0 d1 d2
            clear HOd0 HBd0
            generalize Wd0.drewN nq = Wd1 at *
            obtain ⟨c1, x0, x1, x2, d0, d1, d2⟩ := CL.out Wd1 HBd1.out.1
            go_wp2_with fail
            exact ⟨⟨k + 1, true, out, by go_num, by go_num, by omega, Lib.hid (by rw [TS.out]; exact HWS.out.same UT.out HC.out), HOd1, HBd1⟩, by simp [intOf]; omega⟩
          · have HC := Lib.hid hs
            have g2 : (ps == s) = false := by simpa using hs
            go_wp2_with fail
            go_quiet (fail)
            have HOd0 := Lib.hid (own_drewN HO.out nq)
            have HBd0 := Lib.hid (HB.out.drewN nq)
            clear c1 x0 x1 x2 d0 d1 d2
            clear HO HB
            generalize wr.drewN nq = Wd0 at *
            obtain ⟨c1, x0, x1, x2, d0, d1, d2⟩ := CL.out Wd0 HBd0.out.1
            go_wp2_with fail
            go_quiet (fail)
            have HOd1 := Lib.hid (own_drewN HOd0.out nq)
            have HBd1 := Lib.hid (HBd0.out.drewN nq)
            clear c1 x0 x1 x2 d0 d1 d2
            clear HOd0 HBd0
            generalize Wd0.drewN nq = Wd1 at *
            obtain ⟨c1, x0, x1, x2, d0, d1, d2⟩ := CL.out Wd1 HBd1.out.1
            have Na2 : Hid ((out).length + 1 ≤ 1000000) := Lib.hid (by have := OL.out; simp; omega)
            have Nb2 : Hid (w3.heap.size ≤ (Wd1.alloc (.cells #[.int .i64 ps, .bool pf, .slice A' pq.length cq] 74)).heap.size) := Lib.hid (by have := HBd1.out.2; simp; omega)
            have BA2 : Hid (Bl w3.heap.size w3 (Wd1.alloc (.cells #[.int .i64 ps, .bool pf, .slice A' pq.length cq] 74))) := Lib.hid (HBd1.out.alloc _)
            have NC2 := Lib.hid (new_cells Wd1 74 [.int .i64 ps, .bool pf, .slice A' pq.length cq])
            go_wp2_with (at_builtin; (refine wpList_append_own (k := 3) (T := 74) (S := 56) elemLine infoLine rfl (by decide) (by decide) rfl _ _ rfl rfl w3.heap.size _ _ (flatL (out)) Wd1.heap.size 0 1 1 [.int .i64 ps, .bool pf, .slice A' pq.length cq] rfl rfl (World.ownsRow.alloc HOd1.out _) rfl NC2.out (by simp [Value.oneCell']) Na2.out Nb2.out ?_; intro va2 wa2 owna gra _; have ba := BA2.out.grownRow (World.ownsRow.alloc HOd1.out _) (Nat.le_refl _) gra; have HBa2 := Lib.hid ba; have HOa2 : Hid (wa2.ownsRow w3.heap.size 74 3 va2 (out ++ [(ps, (⟨pf, pq, .slice A' pq.length cq⟩ : Rx))]).length (flatL (out ++ [(ps, (⟨pf, pq, .slice A' pq.length cq⟩ : Rx))]))) := Lib.hid (by rw [flatL_snoc, List.length_append]; exact owna); obtain ⟨c1, x0, x1, x2, d0, d1, d2⟩ := CL.out wa2 ba.1; clear owna gra ba))
            exact ⟨⟨k + 1, true, out ++ [(ps, (⟨pf, pq, .slice A' pq.length cq⟩ : Rx))], by go_num, by go_num, by omega, Lib.hid (by rw [TS.out]; exact HWS.out.other UT.out HC.out), HOa2, HBa2⟩, by simp [intOf]; omega⟩
      · obtain rfl : k = xs.length := by omega
        obtain ⟨c1, x0, x1, x2⟩ : wr.cell? ⟨w.heap.size, 1, none⟩ = some (.slice A xs.length c) ∧ wr.cell? ⟨w.heap.size + 1, 0, none⟩ = some (.int .i64 s) ∧ wr.cell? ⟨w.heap.size + 1, 1, none⟩ = some (.bool true) ∧ wr.cell? ⟨w.heap.size + 1, 2, none⟩ = some (.slice B xq.length cx) := by
          obtain ⟨x0, x1, x2, _, _, _⟩ := blk3 (BX.out.below HB.out.1)
          exact ⟨by rw [(BK.out.below HB.out.1).cell]; rfl, x0, x1, x2⟩
        have OL : Hid (out.length ≤ 1001) := Lib.hid (by have := HWS.out.len (HUX.out.sublist (List.take_sublist _ _)); rw [List.length_take] at this; omega)
        have HWS2 : Hid (Wst s (⟨xf, xq, .slice B xq.length cx⟩ : Rx) bare xs out put) := Lib.hid (by have := HWS.out; rwa [List.take_length] at this)
        rcases put with _ | _
        · skip
          have Na0 : Hid ((out).length + 1 ≤ 1000000) := Lib.hid (by have := OL.out; simp; omega)
          have Nb0 : Hid (w3.heap.size ≤ (wr.alloc (.cells #[.int .i64 s, .bool true, .slice B xq.length cx] 74)).heap.size) := Lib.hid (by have := HB.out.2; simp; omega)
          have BA0 : Hid (Bl w3.heap.size w3 (wr.alloc (.cells #[.int .i64 s, .bool true, .slice B xq.length cx] 74))) := Lib.hid (HB.out.alloc _)
          have NC0 := Lib.hid (new_cells wr 74 [.int .i64 s, .bool true, .slice B xq.length cx])
          go_wp2_with (at_builtin; (refine wpList_append_own (k := 3) (T := 74) (S := 56) elemLine infoLine rfl (by decide) (by decide) rfl _ _ rfl rfl w3.heap.size _ _ (flatL (out)) wr.heap.size 0 1 1 [.int .i64 s, .bool true, .slice B xq.length cx] rfl rfl (World.ownsRow.alloc HO.out _) rfl NC0.out (by simp [Value.oneCell']) Na0.out Nb0.out ?_; intro va0 wa0 owna gra _; have ba := BA0.out.grownRow (World.ownsRow.alloc HO.out _) (Nat.le_refl _) gra; have HBa0 := Lib.hid ba; have HOa0 : Hid (wa0.ownsRow w3.heap.size 74 3 va0 (out ++ [(s, (⟨xf, xq, .slice B xq.length cx⟩ : Rx))]).length (flatL (out ++ [(s, (⟨xf, xq, .slice B xq.length cx⟩ : Rx))]))) := Lib.hid (by rw [flatL_snoc, List.length_append]; simp only [lineC, HXF.out]; exact owna); obtain ⟨Ao, co, hvo⟩ := own_shape owna; subst hvo; obtain ⟨y0, y1, fy0, fy1⟩ := blk2 (BK.out.below ba.1); obtain ⟨r0, r1, fr0, fr1⟩ := blk2 (BR.out.below ba.1); clear owna gra ba))
          obtain ⟨q1, q2, q3⟩ := end_with (BR.out.below HBa0.out.1) (B0.out.call HBa0.out.1) (f := w.heap.size) (g := w.heap.size + 1 + 1) (Nat.le_refl _) (by omega) (by omega) HOa0.out (by rw [SZ.out]; omega) z
          exact bodyPost_ret (results_f1 rfl _ _ _ rfl q1) rfl ⟨_, rfl, (by have := FIN.out _ _ _ w3.heap.size q2.1 (by rw [SZ.out]; omega) q3 (HWS2.out.last); rwa [HXF.out] at this), q2.1⟩
        · obtain ⟨y0, y1, fy0, fy1⟩ := blk2 (BK.out.below HB.out.1)
          obtain ⟨r0, r1, fr0, fr1⟩ := blk2 (BR.out.below HB.out.1)
          obtain ⟨Ao, co, rfl⟩ := own_shape HO.out
          go_wp2_with fail
          obtain ⟨q1, q2, q3⟩ := end_with (BR.out.below HB.out.1) (B0.out.call HB.out.1) (f := w.heap.size) (g := w.heap.size + 1 + 1) (Nat.le_refl _) (by omega) (by omega) HO.out (by rw [SZ.out]; omega) z
          exact bodyPost_ret (results_f1 rfl _ _ _ rfl q1) rfl ⟨_, rfl, (by have := FIN.out _ _ _ w3.heap.size q2.1 (by rw [SZ.out]; omega) q3 (HWS2.out.done); rwa [HXF.out] at this), q2.1⟩
end Go.Proofs.Ytjladlniilacjaa
