/-
  canon.cut, with the closure of canon.Apply: the entries whose keys haven't changed.
-/
import Derived.Test.YtdahhnefcageeaaMdlMap
import Derived.Test.YtdahhnefcageeaaMdlCheck
import Derived.Handy
namespace Go.Proofs.Ytdahhnefcageeaa
open Go.RowKit Go.Proofs.Mdl
set_option linter.unusedVariables false
set_option linter.unusedSimpArgs false
theorem elemEnts : Try.prog.underlying 43 = some (.slice 84) := Try.underlying43
theorem infoEnts : (Try.prog.info? 84).map (fun i => (i.zero, i.size, i.bytes)) = some (some (.agg #[.string ⟨#[]⟩, .string ⟨#[]⟩]), 2, 32) := by kernel_rfl
set_option maxRecDepth 100000 in
set_option maxHeartbeats 1000000 in
theorem unch_any {W : World} {m n p : Nat} {f : ByteArray → Option Chg} (hp : p < W.heap.size) (hc : W.cell? ⟨p, 0, none⟩ = some (.map (some m))) (hm : Mc W m f n) (e : Ent) (hk : e.k.size ≤ maxLen) :
    Calls Try.prog 53 #[.agg #[.string e.k, .string e.v], .pointer (some ⟨p, 0, none⟩)] W fun x w' => x = .returned (.bool (!(f e.k).isSome)) ∧ Below W.heap.size W w' := by
  obtain ⟨ek, ev⟩ := e
  simp only at hk ⊢
  have b1 : Below W.heap.size W (W.alloc (.cells #[.string ek, .string ev] 84)) := (Below.refl W.heap.size W).alloc (Nat.le_refl _) _
  obtain ⟨⟨ck, cv, cg⟩, hl⟩ := (hm.below b1).look ek hk
  have c1 := (b1.cell (p := ⟨p, 0, none⟩) hp).trans hc
  unfold chVal at hl
  simp only at hl
  generalize (f ek).isSome = r at hl ⊢
  clear hm hk hc
  go_enter Try.func53, Try.ntmps53
  go_wp2_with fail
  go_ret
  exact ⟨rfl, b1.trans ((Below.refl _ _).alloc (by simp) _)⟩
def unch (f : ByteArray → Option Chg) (l : List Ent) : List Ent := l.filter (fun e => !(f e.k).isSome)
theorem unch_step {f : ByteArray → Option Chg} {l : List Ent} {k : Nat} {e : Ent} (h : l[k]? = some e) : unch f (l.take (k + 1)) = if (f e.k).isSome then unch f (l.take k) else unch f (l.take k) ++ [e] := by
  unfold unch
  rw [List.take_add_one, h, List.filter_append, Option.toList_some]
  have : [e].filter (fun e => !(f e.k).isSome) = if (f e.k).isSome then [] else [e] := by
    rw [List.filter_cons]
    cases (f e.k).isSome <;> rfl
  rw [this]
  split <;> simp
set_option maxRecDepth 100000 in
set_option maxHeartbeats 2000000 in
theorem cut_any {w : World} {v : Value} {l : List Ent} {m n p : Nat} {f : ByteArray → Option Chg} (h : Es w v l) (hp : p < w.heap.size) (hc : w.cell? ⟨p, 0, none⟩ = some (.map (some m))) (hm : Mc w m f n) (hl : l.length ≤ 1000) (hk : ∀ e ∈ l, e.k.size ≤ maxLen) :
    Calls Try.prog 52 #[v, .func (.func 53) #[] #[.pointer (some ⟨p, 0, none⟩)]] w fun e w' => ∃ v', e = .returned v' ∧ w'.ownsRow w.heap.size 84 2 v' (unch f l).length (flatE (unch f l)) ∧ Below w.heap.size w w' := by
  obtain ⟨A, c, rfl⟩ := h.shape
  obtain ⟨z, hz⟩ : ∃ z, z = l.length := ⟨_, rfl⟩
  rw [← hz] at h ⊢
  have HE := Lib.hid h
  have HN := Lib.hid hz
  have HK := Lib.hid hk
  have n1 : z ≤ 1000 := by omega
  have UN := Lib.hid (fun W (hW : Below w.heap.size w W) (e : Ent) (he : e.k.size ≤ maxLen) => unch_any (Nat.lt_of_lt_of_le hp hW.size) ((hW.cell (p := ⟨p, 0, none⟩) hp).trans hc) (hm.below hW) e he)
  have eg : ∀ args w, (callFunc 53 args).run Try.prog w = .ok (.enter 53 args) w := enters_of Try.func53 (by kernel_rfl) rfl
  clear h hz hl hk hp hc hm
  go_enter Try.func52, Try.ntmps52
  go_wp2_with fail
  go_loopw [5, 10] (fun v5 vi wr => ∃ k : Nat, vi = .int .i64 (k : Int) ∧ k ≤ z ∧ Hid (wr.ownsRow w.heap.size 84 2 v5 (unch f (l.take k)).length (flatE (unch f (l.take k)))) ∧ Hid (Bl w.heap.size w wr)) (fun _ vi _ => z - (intOf vi).toNat)
  case atStart => exact ⟨0, rfl, Nat.zero_le _, Lib.hid ⟨rfl, .inl ⟨rfl, rfl⟩⟩, Lib.hid (Bl.start w)⟩
  case round =>
    obtain ⟨k, rfl, hk, OD, HB⟩ := hrel
    by_cases hlt : k < z
    · obtain ⟨x, hx⟩ : ∃ x, l[k]? = some x := ⟨_, List.getElem?_eq_getElem (by rw [← HN.out]; exact hlt)⟩
      obtain ⟨b, o, c', hv, hbl, d0, d1⟩ := (HE.out.below HB.out.1).at_ hx
      simp only [Value.slice.injEq] at hv
      obtain ⟨rfl, -, -⟩ := hv
      have STEP := Lib.hid (unch_step (f := f) hx)
      have KX := HK.out x (List.mem_of_getElem? hx)
      have BA := Lib.hid (HB.out.alloc (.cells #[.string x.k, .string x.v] 84))
      have U1 := Lib.hid (UN.out _ BA.out.1 x KX)
      have BX := Lib.hid (Blk.new wr 84 #[.string x.k, .string x.v])
      have OD1 := Lib.hid (World.ownsRow.alloc OD.out (.cells #[.string x.k, .string x.v] 84))
      have LD : Hid ((unch f (l.take k)).length ≤ 1000) := Lib.hid (by
        have h1 : (unch f (l.take k)).length ≤ (l.take k).length := List.length_filter_le _ _
        rw [List.length_take] at h1
        omega)
      have i1 : (k : Int) < (z : Int) := by omega
      have wk : IntKind.i64.wrap ((k : Int) + 1) = (k : Int) + 1 := IntWalk.i64_in _ (by omega)
      obtain ⟨ek, ev⟩ := x
      simp only at d0 d1 STEP U1 BX BA OD1
      clear hx KX
      generalize (f ek).isSome = r at STEP U1
      go_upto_region 5 with (fail)
      have h1 := Lib.hid (Nat.lt_of_lt_of_eq (Nat.lt_succ_self wr.heap.size) (World.size_alloc wr (.cells #[.string ek, .string ev] 84)).symm)
      generalize wr.alloc (.cells #[.string ek, .string ev] 84) = w1 at *
      generalize wr.heap.size = g at *
      have e0 := BX.out.cell 0
      have e1 := BX.out.cell 1
      simp only [List.getElem?_toArray, List.getElem?_cons_succ, List.getElem?_cons_zero] at e0 e1
      clear d0 d1 hbl OD HB
      cases r with
      | true =>
        simp only [if_true, Bool.not_true] at STEP U1
        go_wp2_with (go_at_fn 53; refine U1.out.mono ?_; rintro e w2 ⟨rfl, hb2⟩; have HB2 := Lib.hid hb2; clear hb2)
        refine ⟨⟨k + 1, rfl, hlt, Lib.hid ?_, Lib.hid ?_⟩, by simp [intOf]; omega⟩
        · rw [STEP.out]; exact own_below OD1.out HB2.out
        · exact BA.out.call HB2.out
      | false =>
        simp only [Bool.false_eq_true, if_false, Bool.not_false] at STEP U1
        go_wp2_with (first
          | (go_at_fn 53; refine U1.out.mono ?_; rintro e w2 ⟨rfl, hb2⟩; have HB2 := Lib.hid hb2; have q0 := (hb2.cell (p := ⟨g, 0, none⟩) h1.out).trans e0; have q1 := (hb2.cell (p := ⟨g, 1, none⟩) h1.out).trans e1; have OD2 := Lib.hid (own_below OD1.out hb2); have BB2 := Lib.hid (BA.out.call hb2); clear hb2; have BA3 := Lib.hid (BB2.out.alloc (.cells #[.string ek, .string ev] 84)); have NC := Lib.hid (new_cells w2 84 [.string ek, .string ev]); have N1 : Hid ((unch f (l.take k)).length + 1 ≤ 1000000) := Lib.hid (by have := LD.out; omega); have OM : Hid (∀ y ∈ ([.string ek, .string ev] : List Value), y.oneCell' = true) := Lib.hid (one_flatE [⟨ek, ev⟩]))
          | (at_builtin; refine wpList_append_own (k := 2) (T := 84) (S := 43) elemEnts infoEnts rfl (by decide) (by decide) rfl _ _ rfl rfl w.heap.size _ _ (flatE (unch f (l.take k))) w2.heap.size 0 1 1 [.string ek, .string ev] rfl rfl (World.ownsRow.alloc OD2.out _) rfl NC.out OM.out N1.out BA3.out.2 ?_; intro v5 wb own5 gr5 _; have b5 := BA3.out.grownRow (World.ownsRow.alloc OD2.out _) (Nat.le_refl _) gr5; have BE := Lib.hid b5; have OE := Lib.hid own5; clear own5 gr5 b5))
        have OE2 : Hid (wb.ownsRow w.heap.size 84 2 v5 (unch f (l.take k) ++ [(⟨ek, ev⟩ : Ent)]).length (flatE (unch f (l.take k) ++ [(⟨ek, ev⟩ : Ent)]))) := Lib.hid (by rw [flatE_append, List.length_append]; exact OE.out)
        refine ⟨⟨k + 1, rfl, hlt, Lib.hid ?_, BE⟩, by simp [intOf]; omega⟩
        rw [STEP.out]
        exact OE2.out
    · have i1 : ¬ (k : Int) < (z : Int) := by omega
      obtain rfl : k = z := by omega
      go_wp2_with fail
      go_ret
      refine ⟨_, rfl, ?_, HB.out.1⟩
      have := OD.out
      rwa [HN.out, List.take_length] at this
end Go.Proofs.Ytdahhnefcageeaa
