/-
  Merged: MdlCut, MdlLay, MdlSort, MdlApp, MdlApply.
-/
import Derived.Test.YtfeonjiiijdibaaGreatDoorGaMdB
import Derived.Handy
import Derived.Shelf.SlSortCmp.WholeK
import Derived.Shelf.SlicesE.Clone
import Derived.Ground.SlsfProg
import Derived.Ground.SlgnProg
import Derived.Test.YtfeonjiiijdibaaGreatDoorProg
namespace Go.Proofs.YtfeonjiiijdibaaGreatDoor
open Go.RowKit Go.Proofs.Mdl
set_option linter.unusedVariables false
set_option linter.unusedSimpArgs false
theorem elemEnts : Tryz.prog.underlying 22 = some (.slice 61) := Tryz.underlying22
theorem infoEnts : (Tryz.prog.info? 61).map (fun i => (i.zero, i.size, i.bytes)) = some (some (.agg #[.string ⟨#[]⟩, .string ⟨#[]⟩]), 2, 32) := by kernel_rfl
set_option maxRecDepth 100000 in
set_option maxHeartbeats 1000000 in
theorem unch_any {W : World} {m n p : Nat} {f : ByteArray → Option Chg} (hp : p < W.heap.size) (hc : W.cell? ⟨p, 0, none⟩ = some (.map (some m))) (hm : Mc W m f n) (e : Ent) (hk : e.k.size ≤ maxLen) :
    Calls Tryz.prog 52 #[.agg #[.string e.k, .string e.v], .pointer (some ⟨p, 0, none⟩)] W fun x w' => x = .returned (.bool (!(f e.k).isSome)) ∧ Below W.heap.size W w' := by
  obtain ⟨ek, ev⟩ := e
  simp only at hk ⊢
  have b1 : Below W.heap.size W (W.alloc (.cells #[.string ek, .string ev] 61)) := (Below.refl W.heap.size W).alloc (Nat.le_refl _) _
  obtain ⟨⟨ck, cv, cg⟩, hl⟩ := (hm.below b1).look ek hk
  have c1 := (b1.cell (p := ⟨p, 0, none⟩) hp).trans hc
  unfold chVal at hl
  simp only at hl
  generalize (f ek).isSome = r at hl ⊢
  clear hm hk hc
  go_enter Tryz.func52, Tryz.ntmps52
  go_wp2_with fail
  go_ret
  exact ⟨rfl, b1.trans ((Below.refl _ _).alloc (by simp) _)⟩
def unch (f : ByteArray → Option Chg) (l : List Ent) : List Ent := l.filter (fun e => !(f e.k).isSome)
theorem unch_step {f : ByteArray → Option Chg} {l : List Ent} {k : Nat} {e : Ent} (h : l[k]? = some e) : unch f (l.take (k + 1)) = if (f e.k).isSome then unch f (l.take k) else unch f (l.take k) ++ [e] := by
  unfold unch
  rw [List.take_add_one, h, List.filter_append, Option.toList_some]
  have : [e].filter (fun e => !(f e.k).isSome) = if (f e.k).isSome then [] else [e] := by
    rw [List.filter_cons]
    cases (f e.k).isSome <;> rfl
  rw [this]
  split <;> simp
set_option maxRecDepth 100000 in
set_option maxHeartbeats 2000000 in
theorem cut_any {w : World} {v : Value} {l : List Ent} {m n p : Nat} {f : ByteArray → Option Chg} (h : Es w v l) (hp : p < w.heap.size) (hc : w.cell? ⟨p, 0, none⟩ = some (.map (some m))) (hm : Mc w m f n) (hl : l.length ≤ 1000) (hk : ∀ e ∈ l, e.k.size ≤ maxLen) :
    Calls Tryz.prog 51 #[v, .func (.func 52) #[] #[.pointer (some ⟨p, 0, none⟩)]] w fun e w' => ∃ v', e = .returned v' ∧ w'.ownsRow w.heap.size 61 2 v' (unch f l).length (flatE (unch f l)) ∧ Below w.heap.size w w' := by
  obtain ⟨A, c, rfl⟩ := h.shape
  obtain ⟨z, hz⟩ : ∃ z, z = l.length := ⟨_, rfl⟩
  rw [← hz] at h ⊢
  have HE := Lib.hid h
  have HN := Lib.hid hz
  have HK := Lib.hid hk
  have n1 : z ≤ 1000 := by omega
  have UN := Lib.hid (fun W (hW : Below w.heap.size w W) (e : Ent) (he : e.k.size ≤ maxLen) => unch_any (Nat.lt_of_lt_of_le hp hW.size) ((hW.cell (p := ⟨p, 0, none⟩) hp).trans hc) (hm.below hW) e he)
  have eg : ∀ args w, (callFunc 52 args).run Tryz.prog w = .ok (.enter 52 args) w := enters_of Tryz.func52 (by kernel_rfl) rfl
  clear h hz hl hk hp hc hm
  go_enter Tryz.func51, Tryz.ntmps51
  go_wp2_with fail
  go_loopw [5, 10] (fun v5 vi wr => ∃ k : Nat, vi = .int .i64 (k : Int) ∧ k ≤ z ∧ Hid (wr.ownsRow w.heap.size 61 2 v5 (unch f (l.take k)).length (flatE (unch f (l.take k)))) ∧ Hid (Bl w.heap.size w wr)) (fun _ vi _ => z - (intOf vi).toNat)
  case atStart => exact ⟨0, rfl, Nat.zero_le _, Lib.hid ⟨rfl, .inl ⟨rfl, rfl⟩⟩, Lib.hid (Bl.start w)⟩
  case round =>
    obtain ⟨k, rfl, hk, OD, HB⟩ := hrel
    by_cases hlt : k < z
    · obtain ⟨x, hx⟩ : ∃ x, l[k]? = some x := ⟨_, List.getElem?_eq_getElem (by rw [← HN.out]; exact hlt)⟩
      obtain ⟨b, o, c', hv, hbl, d0, d1⟩ := (HE.out.below HB.out.1).at_ hx
      simp only [Value.slice.injEq] at hv
      obtain ⟨rfl, -, -⟩ := hv
      have STEP := Lib.hid (unch_step (f := f) hx)
      have KX := HK.out x (List.mem_of_getElem? hx)
      have BA := Lib.hid (HB.out.alloc (.cells #[.string x.k, .string x.v] 61))
      have U1 := Lib.hid (UN.out _ BA.out.1 x KX)
      have BX := Lib.hid (Blk.new wr 61 #[.string x.k, .string x.v])
      have OD1 := Lib.hid (World.ownsRow.alloc OD.out (.cells #[.string x.k, .string x.v] 61))
      have LD : Hid ((unch f (l.take k)).length ≤ 1000) := Lib.hid (by
        have h1 : (unch f (l.take k)).length ≤ (l.take k).length := List.length_filter_le _ _
        rw [List.length_take] at h1
        omega)
      have i1 : (k : Int) < (z : Int) := by omega
      have wk : IntKind.i64.wrap ((k : Int) + 1) = (k : Int) + 1 := IntWalk.i64_in _ (by omega)
      obtain ⟨ek, ev⟩ := x
      simp only at d0 d1 STEP U1 BX BA OD1
      clear hx KX
      generalize (f ek).isSome = r at STEP U1
      go_upto_region 5 with (fail)
      have h1 := Lib.hid (Nat.lt_of_lt_of_eq (Nat.lt_succ_self wr.heap.size) (World.size_alloc wr (.cells #[.string ek, .string ev] 61)).symm)
      generalize wr.alloc (.cells #[.string ek, .string ev] 61) = w1 at *
      generalize wr.heap.size = g at *
      have e0 := BX.out.cell 0
      have e1 := BX.out.cell 1
      simp only [List.getElem?_toArray, List.getElem?_cons_succ, List.getElem?_cons_zero] at e0 e1
      clear d0 d1 hbl OD HB
      cases r with
      | true =>
        simp only [if_true, Bool.not_true] at STEP U1
        go_wp2_with (go_at_fn 52; refine U1.out.mono ?_; rintro e w2 ⟨rfl, hb2⟩; have HB2 := Lib.hid hb2; clear hb2)
        refine ⟨⟨k + 1, rfl, hlt, Lib.hid ?_, Lib.hid ?_⟩, by simp [intOf]; omega⟩
        · rw [STEP.out]; exact own_below OD1.out HB2.out
        · exact BA.out.call HB2.out
      | false =>
        simp only [Bool.false_eq_true, if_false, Bool.not_false] at STEP U1
        go_wp2_with (first
          | (go_at_fn 52; refine U1.out.mono ?_; rintro e w2 ⟨rfl, hb2⟩; have HB2 := Lib.hid hb2; have q0 := (hb2.cell (p := ⟨g, 0, none⟩) h1.out).trans e0; have q1 := (hb2.cell (p := ⟨g, 1, none⟩) h1.out).trans e1; have OD2 := Lib.hid (own_below OD1.out hb2); have BB2 := Lib.hid (BA.out.call hb2); clear hb2; have BA3 := Lib.hid (BB2.out.alloc (.cells #[.string ek, .string ev] 61)); have NC := Lib.hid (new_cells w2 61 [.string ek, .string ev]); have N1 : Hid ((unch f (l.take k)).length + 1 ≤ 1000000) := Lib.hid (by have := LD.out; omega); have OM : Hid (∀ y ∈ ([.string ek, .string ev] : List Value), y.oneCell' = true) := Lib.hid (one_flatE [⟨ek, ev⟩]))
          | (at_builtin; refine wpList_append_own (k := 2) (T := 61) (S := 22) elemEnts infoEnts rfl (by decide) (by decide) rfl _ _ rfl rfl w.heap.size _ _ (flatE (unch f (l.take k))) w2.heap.size 0 1 1 [.string ek, .string ev] rfl rfl (World.ownsRow.alloc OD2.out _) rfl NC.out OM.out N1.out BA3.out.2 ?_; intro v5 wb own5 gr5 _; have b5 := BA3.out.grownRow (World.ownsRow.alloc OD2.out _) (Nat.le_refl _) gr5; have BE := Lib.hid b5; have OE := Lib.hid own5; clear own5 gr5 b5))
        have OE2 : Hid (wb.ownsRow w.heap.size 61 2 v5 (unch f (l.take k) ++ [(⟨ek, ev⟩ : Ent)]).length (flatE (unch f (l.take k) ++ [(⟨ek, ev⟩ : Ent)]))) := Lib.hid (by rw [flatE_append, List.length_append]; exact OE.out)
        refine ⟨⟨k + 1, rfl, hlt, Lib.hid ?_, BE⟩, by simp [intOf]; omega⟩
        rw [STEP.out]
        exact OE2.out
    · have i1 : ¬ (k : Int) < (z : Int) := by omega
      obtain rfl : k = z := by omega
      go_wp2_with fail
      go_ret
      refine ⟨_, rfl, ?_, HB.out.1⟩
      have := OD.out
      rwa [HN.out, List.take_length] at this
end Go.Proofs.YtfeonjiiijdibaaGreatDoor
namespace Go.Proofs
open Go.Shelf
def Tryz.mdlSort_ren : Go.Shelf.Ren := ⟨fun | 6 => 53 | 15 => 83 | 14 => 82 | 28 => 119 | 29 => 120 | 20 => 111 | 21 => 112 | 22 => 113 | 23 => 114 | 24 => 115 | 25 => 116 | 26 => 117 | 27 => 118 | 46 => 145 | 47 => 146 | 48 => 147 | 49 => 148 | 50 => 149 | 57 => 164 | n => n, fun | 22 => 22 | 24 => 61 | 25 => 84 | 3 => 3 | 39 => 108 | 0 => 0 | 53 => 107 | 55 => 124 | 4 => 4 | 46 => 138 | 45 => 137 | 50 => 142 | 5 => 5 | 9 => 9 | 66 => 171 | 70 => 175 | 76 => 193 | 77 => 194 | n => n, fun | n => n⟩
theorem Tryz.mdlSort : Go.Proofs.SlLaysF0.n6 Tryz.prog Tryz.mdlSort_ren := {
  mixed := by kernel_rfl
  f6 := ⟨Tryz.f53.name, by decide, Tryz.func53.trans (congrArg some (by kernel_rfl))⟩
  f14 := ⟨Tryz.f82.name, by decide, Tryz.func82.trans (congrArg some (by kernel_rfl))⟩
  f15 := Tryz.func83.trans (congrArg some (by kernel_rfl))
  f20 := ⟨Tryz.f111.name, by decide, Tryz.func111.trans (congrArg some (by kernel_rfl))⟩
  f21 := ⟨Tryz.f112.name, by decide, Tryz.func112.trans (congrArg some (by kernel_rfl))⟩
  f22 := ⟨Tryz.f113.name, by decide, Tryz.func113.trans (congrArg some (by kernel_rfl))⟩
  f23 := ⟨Tryz.f114.name, by decide, Tryz.func114.trans (congrArg some (by kernel_rfl))⟩
  f24 := ⟨Tryz.f115.name, by decide, Tryz.func115.trans (congrArg some (by kernel_rfl))⟩
  f25 := ⟨Tryz.f116.name, by decide, Tryz.func116.trans (congrArg some (by kernel_rfl))⟩
  f26 := ⟨Tryz.f117.name, by decide, Tryz.func117.trans (congrArg some (by kernel_rfl))⟩
  f27 := ⟨Tryz.f118.name, by decide, Tryz.func118.trans (congrArg some (by kernel_rfl))⟩
  f28 := Tryz.func119.trans (congrArg some (by kernel_rfl))
  f29 := Tryz.func120.trans (congrArg some (by kernel_rfl))
  f46 := ⟨Tryz.f145.name, by decide, Tryz.func145.trans (congrArg some (by kernel_rfl))⟩
  f47 := Tryz.func146.trans (congrArg some (by kernel_rfl))
  f48 := Tryz.func147.trans (congrArg some (by kernel_rfl))
  f49 := ⟨Tryz.f148.name, by decide, Tryz.func148.trans (congrArg some (by kernel_rfl))⟩
  f50 := ⟨Tryz.f149.name, by decide, Tryz.func149.trans (congrArg some (by kernel_rfl))⟩
  f57 := ⟨Tryz.f164.name, by decide, Tryz.func164.trans (congrArg some (by kernel_rfl))⟩
  t0 := Tryz.underlying0
  a0 := Tryz.isAgg0
  z0 := Tryz.sizeOf0
  v0 := Tryz.zeroValue0
  t3 := Tryz.underlying3
  a3 := Tryz.isAgg3
  z3 := Tryz.sizeOf3
  v3 := Tryz.zeroValue3
  t4 := Tryz.underlying4
  a4 := Tryz.isAgg4
  z4 := Tryz.sizeOf4
  v4 := Tryz.zeroValue4
  t5 := Tryz.underlying5
  a5 := Tryz.isAgg5
  z5 := Tryz.sizeOf5
  v5 := Tryz.zeroValue5
  t9 := Tryz.underlying9
  a9 := Tryz.isAgg9
  z9 := Tryz.sizeOf9
  v9 := Tryz.zeroValue9
  t22 := Tryz.underlying22
  a22 := Tryz.isAgg22
  z22 := Tryz.sizeOf22
  v22 := Tryz.zeroValue22
  t25 := Tryz.underlying84
  a25 := Tryz.isAgg84
  z25 := Tryz.sizeOf84
  v25 := Tryz.zeroValue84
  t39 := Tryz.underlying108
  a39 := Tryz.isAgg108
  z39 := Tryz.sizeOf108
  v39 := Tryz.zeroValue108
  t45 := Tryz.underlying137
  a45 := Tryz.isAgg137
  z45 := Tryz.sizeOf137
  v45 := Tryz.zeroValue137
  t46 := Tryz.underlying138
  a46 := Tryz.isAgg138
  z46 := Tryz.sizeOf138
  v46 := Tryz.zeroValue138
  t50 := Tryz.underlying142
  a50 := Tryz.isAgg142
  z50 := Tryz.sizeOf142
  v50 := Tryz.zeroValue142
  t53 := Tryz.underlying107
  a53 := Tryz.isAgg107
  z53 := Tryz.sizeOf107
  v53 := Tryz.zeroValue107
  t55 := Tryz.underlying124
  a55 := Tryz.isAgg124
  z55 := Tryz.sizeOf124
  v55 := Tryz.zeroValue124
  t66 := Tryz.underlying171
  a66 := Tryz.isAgg171
  z66 := Tryz.sizeOf171
  v66 := Tryz.zeroValue171
  t70 := Tryz.underlying175
  a70 := Tryz.isAgg175
  z70 := Tryz.sizeOf175
  v70 := Tryz.zeroValue175
  t76 := Tryz.underlying193
  a76 := Tryz.isAgg193
  z76 := Tryz.sizeOf193
  v76 := Tryz.zeroValue193
  t77 := Tryz.underlying194
  a77 := Tryz.isAgg194
  z77 := Tryz.sizeOf194
  v77 := Tryz.zeroValue194 }
end Go.Proofs
namespace Go.Proofs.YtfeonjiiijdibaaGreatDoor
open Go.RowKit Go.Proofs.Mdl Go.Sort
set_option linter.unusedVariables false
set_option linter.unusedSimpArgs false
instance : Inhabited Ent := ⟨⟨e0, e0⟩⟩
def cmpK (x y : ByteArray) : Int := if ltB x y then -1 else if ltB y x then 1 else 0
def cmpE (x y : Ent) : Int := cmpK x.k y.k
theorem ltOf_cmpE (x y : Ent) : ltOf cmpE x y = ltB x.k y.k := by
  unfold ltOf cmpE cmpK
  by_cases h : ltB x.k y.k = true
  · simp [h]
  · rw [if_neg h]
    have : ltB x.k y.k = false := by simpa using h
    rw [this]
    split <;> simp
theorem swoE : SWO (ltOf cmpE) where
  irrefl x := by rw [ltOf_cmpE]; exact ltB_irrefl _
  trans x y z h1 h2 := by rw [ltOf_cmpE] at *; exact ltB_trans h1 h2
  ntrans x y z h1 h2 := by
    rw [ltOf_cmpE] at *
    rw [Bool.eq_false_iff]
    intro h3
    cases h4 : ltB y.k x.k with
    | true =>
      have := ltB_trans h4 h3
      rw [h2] at this
      cases this
    | false =>
      have e := ltB_conn h1 h4
      rw [e, h2] at h3
      cases h3
theorem nanS_any (x : ByteArray) (w : World) : Calls Tryz.prog 84 #[.string x] w fun e w' => e = .returned (.bool false) ∧ w = w' := by
  have h : (x.toList == x.toList) = true := by simp
  go_enter Tryz.func84, Tryz.ntmps84
  go_wp2_with fail
  go_ret
  exact ⟨rfl, rfl⟩
theorem cmpS_any (x y : ByteArray) (w : World) : Calls Tryz.prog 55 #[.string x, .string y] w fun e w' => e = .returned (.int .i64 (cmpK x y)) ∧ w = w' := by
  have NAN := Lib.hid (fun x w => nanS_any x w)
  cases h : ltB x y with
  | true =>
    have hr : cmpK x y = -1 := by unfold cmpK; rw [if_pos h]
    rw [hr]
    clear hr
    unfold ltB at h
    go_enter Tryz.func55, Tryz.ntmps55
    go_wp2_with (go_at_call 84; refine (NAN.out _ _).mono ?_; rintro e w1 ⟨rfl, rfl⟩)
    go_ret
    exact ⟨rfl, rfl⟩
  | false =>
    cases h2 : ltB y x with
    | true =>
      have hr : cmpK x y = 1 := by unfold cmpK; rw [if_neg (by rw [h]; simp), if_pos h2]
      rw [hr]
      clear hr
      have hne : (x.toList == y.toList) = false := by
        rw [Lib.toList_data, Lib.toList_data]
        rw [beq_eq_false_iff_ne]
        intro e
        have e2 := bytes_ext e
        subst e2
        rw [h] at h2
        cases h2
      unfold ltB at h h2
      go_enter Tryz.func55, Tryz.ntmps55
      go_wp2_with (go_at_call 84; refine (NAN.out _ _).mono ?_; rintro e w1 ⟨rfl, rfl⟩)
      go_ret
      exact ⟨rfl, rfl⟩
    | false =>
      have hr : cmpK x y = 0 := by unfold cmpK; rw [if_neg (by rw [h]; simp), if_neg (by rw [h2]; simp)]
      rw [hr]
      clear hr
      have hne : (x.toList == y.toList) = true := by
        rw [Lib.toList_data, Lib.toList_data]
        rw [ltB_conn h h2]
        simp
      unfold ltB at h h2
      go_enter Tryz.func55, Tryz.ntmps55
      go_wp2_with (go_at_call 84; refine (NAN.out _ _).mono ?_; rintro e w1 ⟨rfl, rfl⟩)
      go_ret
      exact ⟨rfl, rfl⟩
theorem byKey_any (x y : Ent) (W : World) : Calls Tryz.prog 54 #[.agg #[.string x.k, .string x.v], .agg #[.string y.k, .string y.v]] W fun e w' => e = .returned (.int .i64 (cmpE x y)) ∧ ∃ q os', w' = grow (W.drewN q) os' := by
  have CMP := Lib.hid (fun W => cmpS_any x.k y.k W)
  unfold cmpE
  generalize cmpK x.k y.k = r at CMP ⊢
  obtain ⟨xk, xv⟩ := x
  obtain ⟨yk, yv⟩ := y
  replace CMP : Hid (∀ W, Calls Tryz.prog 55 #[.string xk, .string yk] W fun e w' => e = .returned (.int .i64 r) ∧ W = w') := CMP
  go_enter Tryz.func54, Tryz.ntmps54
  go_wp2_with (go_at_call 55; refine (CMP.out _).mono ?_; rintro e w1 ⟨rfl, rfl⟩)
  go_ret
  exact ⟨rfl, 0, _, by rw [alloc_eq_grow, alloc_eq_grow, grow_grow]; rfl⟩
theorem flatE_get : ∀ (l : List Ent) (t : Nat), t < l.length * 2 → (flatE l)[t]? = (cellE (l.toArray[t / 2]!))[t % 2]?
  | [], t, h => by simp at h
  | e :: r, 0, h => rfl
  | e :: r, 1, h => rfl
  | e :: r, t + 2, h => by
    have := flatE_get r t (by simp at h; omega)
    rw [flatE_cons, List.getElem?_append_right (by simp [cellE])]
    rw [show t + 2 - (cellE e).length = t by simp [cellE], this, show (t + 2) / 2 = t / 2 + 1 by omega, show (t + 2) % 2 = t % 2 by omega]
    congr 1
    simp [getElem!_def]
theorem flatK_eq (l : List Ent) : flatK cellE 2 l.toArray = (flatE l).toArray := by
  refine ext_get! (by simp [flatE_length]) fun t ht => ?_
  have ht' : t < l.length * 2 := by simpa using ht
  rw [get_flatK _ _ _ t (by simpa using ht')]
  have h1 := flatE_get l t ht'
  rw [getElem!_def (flatE l).toArray, getElem!_def (cellE _)]
  simp only [List.getElem?_toArray]
  rw [h1]
section
variable {w : World} {g n : Nat} {os : Array Obj} {cur : Array Value} {e : TypeId} {fr : Nat × Nat}
theorem heap_sortedV (d : Array Value) (hb : w.heap[g]? = some (.cells cur e fr)) : (Sort.grow (putRow id (Sort.ahead w n) g 0 d) os).heap[g]? = some (.cells (putCells id 0 d cur) e fr) := by
  have hg : g < w.heap.size := (Array.getElem?_eq_some_iff.1 hb).1
  rw [heap_grow_old _ _ (by simpa using hg)]
  simp [putRow, mapBlock, Sort.ahead, Array.getElem?_modify, hb, onCells]
theorem far_sortedV (d : Array Value) : Far (fun i => i = g) w (Sort.grow (putRow id (Sort.ahead w n) g 0 d) os) := by
  refine ⟨rfl, rfl, rfl, by simp, fun k hk hne => ?_⟩
  rw [heap_grow_old _ _ (by simpa using hk)]
  have : g ≠ k := fun e => hne e.symm
  simp [putRow, mapBlock, Sort.ahead, Array.getElem?_modify, this]
theorem take_putCellsV (cur : Array Value) (ts : List Value) (h : ts.length ≤ cur.size) : (putCells id 0 ts.toArray cur).toList.take ts.length = ts := by
  apply List.ext_getElem?
  intro j
  by_cases hj : j < ts.length
  · rw [List.getElem?_take_of_lt hj, Array.getElem?_toList]
    simp [putCells, hj, show j < cur.size by omega]
  · rw [List.getElem?_take_eq_none (by omega), List.getElem?_eq_none (by omega)]
end
theorem up_perm {l l' : List Ent} (hp : l'.Perm l) (hd : (l.map (·.k)).Nodup) (hs : l'.Pairwise (fun x y => ltB y.k x.k = false)) : Up l' := by
  have hd' : (l'.map (·.k)).Nodup := (hp.map _).nodup_iff.2 hd
  rw [List.Nodup, List.pairwise_map] at hd'
  refine List.Pairwise.imp₂ (fun x y h1 h2 => ?_) hs hd'
  cases h3 : ltB x.k y.k with
  | true => rfl
  | false => exact absurd (ltB_conn h3 h1) h2
theorem sortedIn_pw {l' : List Ent} (h : SortedIn (ltOf cmpE) 0 l'.length l'.toArray) : l'.Pairwise (fun x y => ltB y.k x.k = false) := by
  rw [List.pairwise_iff_getElem]
  intro i j hi hj hij
  have := h i j (Nat.zero_le _) hij hj
  rw [ltOf_cmpE] at this
  simpa [getElem!_def, hi, hj] using this
set_option maxHeartbeats 2000000 in
theorem isort_none (cap : Nat) (fv : Value) (w : World) : Calls Tryz.prog 111 #[.slice none 0 cap, .int .i64 0, .int .i64 0, fv] w fun e w' => e = .returned (.tuple #[]) ∧ w' = w := by
  go_enter Tryz.func111, Tryz.ntmps111
  go_wp2
  refine wp_loop_rounds 1 ?_
  rw [rounds_succ]
  go_wp2
  go_end0
  exact ⟨rfl, rfl⟩
set_option maxHeartbeats 2000000 in
theorem pdq_none (cap : Nat) (lim : Int) (fv : Value) (w : World) : Calls Tryz.prog 82 #[.slice none 0 cap, .int .i64 0, .int .i64 0, .int .i64 lim, fv] w fun e w' => e = .returned (.tuple #[]) ∧ w' = w := by
  have hi := Lib.hid (fun W => isort_none cap fv W)
  go_enter Tryz.func82, Tryz.ntmps82
  go_wp2
  refine wp_loop_rounds 1 ?_
  rw [rounds_succ]
  go_wp2_with (go_at_call 111; refine (hi.out _).mono ?_; rintro e w' ⟨rfl, rfl⟩)
  (try simp only [Exit.inBlock, Exit.then]); refine bodyPost_ret (results_none rfl _ _ _) rfl ?_
  exact ⟨rfl, rfl⟩
set_option maxHeartbeats 2000000 in
theorem sort_none (cap : Nat) (fv : Value) (w : World) : Calls Tryz.prog 53 #[.slice none 0 cap, fv] w fun e w' => e = .returned (.tuple #[]) ∧ w' = w := by
  have hp := Lib.hid (fun lim W => pdq_none cap lim fv W)
  have hl : Hid (∀ W, Calls Tryz.prog 83 #[.int .u64 0] W fun e w' => e = .returned (.int .i64 (Lib.bitLen 0 : Nat)) ∧ w' = W) := Lib.hid fun W => by
    have h := Any.bits_Len (SlLaysF0.n15.bits (P := Tryz.prog) (ρ := Tryz.mdlSort_ren) { Tryz.mdlSort with }) 0 W (by omega) (by omega)
    exact h
  go_enter Tryz.func53, Tryz.ntmps53
  go_wp2_with (first
    | (go_at_call 83; refine (hl.out _).mono ?_; rintro e w' ⟨rfl, rfl⟩)
    | (go_at_call 82; refine (hp.out _ _).mono ?_; rintro e w' ⟨rfl, rfl⟩))
  go_end0
  exact ⟨rfl, rfl⟩
theorem sort_any (w : World) (base : Nat) (v : Value) (l : List Ent) (hown : w.ownsRow base 61 2 v l.length (flatE l)) (hl : l.length ≤ 1000000) :
    Calls Tryz.prog 53 #[v, .func (.func 54) #[] #[]] w fun e w' => e = .returned (.tuple #[]) ∧ ∃ l', l'.Perm l ∧ l'.Pairwise (fun x y => ltB y.k x.k = false) ∧ w'.ownsRow base 61 2 v l.length (flatE l') ∧ Far (fun i => v.ownBlock = some i) w w' := by
  have eg : ∀ args w, (callFunc 54 args).run Tryz.prog w = .ok (.enter 54 args) w := enters_of Tryz.func54 (by kernel_rfl) rfl
  rcases hown.2 with ⟨rfl, h0⟩ | ⟨g, cap, cur, rfl, hbase, hg, hle, hcap, hs, ht⟩
  · rw [h0]
    refine (sort_none 0 _ w).mono ?_
    rintro e w' ⟨he, rfl⟩
    have hl0 : l = [] := List.length_eq_zero_iff.1 h0
    subst hl0
    exact ⟨he, [], List.Perm.refl _, List.Pairwise.nil, hown, Far.refl _ _⟩
  · have hlt : g < w.heap.size := (Array.getElem?_eq_some_iff.1 hg).1
    have hH : HoldsK cellE 2 w g 0 l.toArray := by
      unfold HoldsK
      rw [flatK_eq]
      intro j hj
      have hj' : j < (flatE l).length := by simpa using hj
      refine ⟨?_, by simp [World.frozen?, hg]⟩
      have h1 : (cur.toList.take (l.length * 2))[j]? = (flatE l)[j]? := by rw [ht]
      rw [List.getElem?_take_of_lt (by rw [flatE_length] at hj'; exact hj')] at h1
      simp only [World.cell?, hg, Nat.zero_add]
      simp only [Option.isSome_none, Bool.false_eq_true, if_false]
      rw [← Array.getElem?_toList, h1]
      simp [hj']
    have hcon := AnyQ.slices_SortFunc Tryz.mdlSort 2 Tryz.isAgg61 Tryz.sizeOf61 cellE (fun _ => rfl) (fun x v hv => one_flatE [x] v (by simpa [flatE] using hv)) cmpE swoE 54 #[] g 0 cap l.toArray w eg (fun m os dk hdk x y => byKey_any x y _) hH hlt (by simp; omega)
    change Calls Tryz.prog 53 _ _ _ at hcon
    refine hcon.mono ?_
    rintro e w' ⟨he, d', m, os, hp, hsd, rfl⟩
    have hsz : d'.size = l.length := by have := hp.1; simpa using this
    obtain ⟨l', rfl⟩ : ∃ l' : List Ent, d' = l'.toArray := ⟨d'.toList, by simp⟩
    have hlen : l'.length = l.length := by simpa using hsz
    have hpm : l'.Perm l := by
      have := hp.2.2
      simpa [List.take_of_length_le (Nat.le_of_eq hlen)] using this
    refine ⟨he, l', hpm, sortedIn_pw (by rw [hlen]; simpa using hsd), ?_, ?_⟩
    · unfold sortWorldK putRowK
      rw [flatK_eq]
      refine ⟨by rw [flatE_length, hlen], .inr ⟨g, cap, _, rfl, hbase, heap_sortedV _ hg, hle, hcap, by simp [putCells, hs], ?_⟩⟩
      have := take_putCellsV cur (flatE l') (by rw [flatE_length, hlen, hs]; exact Nat.mul_le_mul hle (Nat.le_refl _))
      rwa [flatE_length, hlen] at this
    · unfold sortWorldK putRowK
      exact (far_sortedV (flatK cellE 2 l'.toArray)).mono (fun i _ h => by rw [h]; rfl)
end Go.Proofs.YtfeonjiiijdibaaGreatDoor
namespace Go.Proofs.Mdl
open Go.Proofs.YtfeonjiiijdibaaGreatDoor
set_option linter.unusedVariables false
set_option linter.unusedSimpArgs false
theorem lastC_snoc (c : Chg) : ∀ (cs : List Chg) (s : ByteArray), lastC (cs ++ [c]) s = if c.k = s then some c else lastC cs s
  | [], s => by
    show lastC [c] s = _
    rw [lastC_cons]
    show (if c.k = s then some c else none) = _
    rfl
  | d :: r, s => by
    show lastC (d :: (r ++ [c])) s = _
    rw [lastC_cons, lastC_snoc c r s, lastC_cons]
    by_cases h : c.k = s
    · rw [if_pos h, if_pos h]
    · rw [if_neg h, if_neg h]
theorem lastC_step {cs : List Chg} {k : Nat} {c : Chg} (h : cs[k]? = some c) : lastC (cs.take (k + 1)) = fun s => if c.k = s then some c else lastC (cs.take k) s := by
  funext s
  rw [List.take_add_one, h, Option.toList_some, lastC_snoc]
theorem lastC_mem : ∀ {cs : List Chg} {s : ByteArray} {c : Chg}, lastC cs s = some c → c ∈ cs ∧ c.k = s
  | [], _, _, h => by cases h
  | d :: r, s, c, h => by
    rw [lastC_cons] at h
    cases hr : lastC r s with
    | some e =>
      rw [hr] at h
      simp only [Option.some.injEq] at h
      subst h
      have := lastC_mem hr
      exact ⟨List.mem_cons_of_mem _ this.1, this.2⟩
    | none =>
      rw [hr] at h
      simp only at h
      split at h
      · next e => cases h; exact ⟨List.mem_cons_self .., e⟩
      · cases h
/-- What the range over the changes has told. -/
structure Told (f : ByteArray → Option Chg) (left : ByteArray → Bool) (D : List Ent) : Prop where
  nd : (D.map (·.k)).Nodup
  inn : ∀ e ∈ D, left e.k = false ∧ ∃ c, f e.k = some c ∧ c.gone = false ∧ e.v = c.v
  all : ∀ s c, f s = some c → c.gone = false → left s = false → (⟨s, c.v⟩ : Ent) ∈ D
theorem Told.start {f : ByteArray → Option Chg} {left : ByteArray → Bool} (h : ∀ s, left s = (f s).isSome) : Told f left [] :=
  ⟨List.Pairwise.nil, fun e he => absurd he List.not_mem_nil, fun s c hs hg hl => by rw [h, hs] at hl; cases hl⟩
theorem Told.gone {f : ByteArray → Option Chg} {left : ByteArray → Bool} {D : List Ent} (h : Told f left D) {x : ByteArray} {c : Chg} (hf : f x = some c) (hg : c.gone = true) (left' : ByteArray → Bool) (hl : ∀ s, left' s = (left s && !decide (s = x))) : Told f left' D := by
  refine ⟨h.nd, fun e he => ?_, fun s d hs hd hls => ?_⟩
  · obtain ⟨h1, h2⟩ := h.inn e he
    exact ⟨by rw [hl, h1]; rfl, h2⟩
  · by_cases e : s = x
    · subst e
      rw [hf] at hs
      cases hs
      rw [hg] at hd
      cases hd
    · rw [hl] at hls
      simp only [e, decide_false, Bool.not_false, Bool.and_true] at hls
      exact h.all s d hs hd hls
theorem Told.more {f : ByteArray → Option Chg} {left : ByteArray → Bool} {D : List Ent} (h : Told f left D) {x : ByteArray} {c : Chg} (hf : f x = some c) (hg : c.gone = false) (hlx : left x = true) (left' : ByteArray → Bool) (hl : ∀ s, left' s = (left s && !decide (s = x))) : Told f left' (D ++ [⟨x, c.v⟩]) := by
  refine ⟨?_, fun e he => ?_, fun s d hs hd hls => ?_⟩
  · rw [List.map_append]
    refine List.nodup_append.2 ⟨h.nd, List.pairwise_singleton _ _, fun a ha b hb => ?_⟩
    obtain ⟨e, he, rfl⟩ := List.mem_map.1 ha
    simp only [List.map_cons, List.map_nil, List.mem_singleton] at hb
    subst hb
    intro e2
    have := (h.inn e he).1
    rw [e2, hlx] at this
    cases this
  · rcases List.mem_append.1 he with he | he
    · obtain ⟨h1, h2⟩ := h.inn e he
      exact ⟨by rw [hl, h1]; rfl, h2⟩
    · rw [List.mem_singleton.1 he]
      exact ⟨by rw [hl]; simp, c, hf, hg, rfl⟩
  · by_cases e : s = x
    · subst e
      rw [hf] at hs
      cases hs
      exact List.mem_append_right _ (List.mem_singleton.2 rfl)
    · rw [hl] at hls
      simp only [e, decide_false, Bool.not_false, Bool.and_true] at hls
      exact List.mem_append_left _ (h.all s d hs hd hls)
theorem Told.few {cs : List Chg} {left : ByteArray → Bool} {D : List Ent} (h : Told (lastC cs) left D) : D.length ≤ cs.length := by
  have := List.Nodup.length_le_of_subset h.nd (l₂ := cs.map (·.k)) (fun a ha => by
    obtain ⟨e, he, rfl⟩ := List.mem_map.1 ha
    obtain ⟨_, c, hc, _⟩ := h.inn e he
    obtain ⟨h1, h2⟩ := lastC_mem hc
    exact List.mem_map.2 ⟨c, h1, h2⟩)
  simpa using this
theorem getE_iff {l : List Ent} (hu : Up l) {k v : ByteArray} : getE l k = some v ↔ (⟨k, v⟩ : Ent) ∈ l := ⟨getE_mem, fun h => getE_of_mem hu h⟩
theorem up_nodup {l : List Ent} (hu : Up l) : (l.map (·.k)).Nodup := by
  rw [List.Nodup, List.pairwise_map]
  exact hu.imp (fun h => ltB_ne h)
section
variable {l D : List Ent} {cs : List Chg} {left : ByteArray → Bool}
theorem told_mem (hu : Up l) (h : Told (lastC cs) left D) (hl : ∀ s, left s = false) (e : Ent) : e ∈ unch (lastC cs) l ++ D ↔ e ∈ applyL l cs := by
  obtain ⟨ek, ev⟩ := e
  rw [← getE_iff (applyL_up cs hu), getE_apply cs hu, List.mem_append]
  unfold unch
  rw [List.mem_filter]
  cases hf : lastC cs ek with
  | none =>
    simp only [hf, Option.isSome_none, Bool.not_false, and_true]
    rw [getE_iff hu]
    constructor
    · rintro (h1 | h1)
      · exact h1
      · obtain ⟨_, c, hc, _⟩ := h.inn _ h1
        rw [hf] at hc
        cases hc
    · exact .inl
  | some c =>
    simp only [hf, Option.isSome_some, Bool.not_true, Bool.false_eq_true, and_false, false_or]
    unfold tell
    constructor
    · intro h1
      obtain ⟨_, d, hd, hg, hv⟩ := h.inn _ h1
      rw [hf] at hd
      cases hd
      rw [if_neg (by rw [hg]; simp)]
      simp only at hv
      rw [hv]
    · intro h1
      split at h1
      · cases h1
      · next hg =>
        cases h1
        exact h.all ek c hf (by simpa using hg) (hl ek)
theorem told_nodup (hu : Up l) (h : Told (lastC cs) left D) : ((unch (lastC cs) l ++ D).map (·.k)).Nodup := by
  rw [List.map_append]
  refine List.nodup_append.2 ⟨?_, h.nd, fun a ha b hb e2 => ?_⟩
  · exact up_nodup (List.Pairwise.sublist List.filter_sublist hu)
  · obtain ⟨e, he, rfl⟩ := List.mem_map.1 ha
    obtain ⟨d, hd, rfl⟩ := List.mem_map.1 hb
    obtain ⟨_, c, hc, _⟩ := h.inn d hd
    have := (List.mem_filter.1 he).2
    rw [e2, hc] at this
    cases this
theorem nodup_of_map {α β : Type} (f : α → β) {l : List α} (h : (l.map f).Nodup) : l.Nodup := by
  rw [List.Nodup, List.pairwise_map] at h
  exact h.imp (fun h e => h (by rw [e]))
theorem told_perm (hu : Up l) (h : Told (lastC cs) left D) (hl : ∀ s, left s = false) : (unch (lastC cs) l ++ D).Perm (applyL l cs) :=
  (List.perm_ext_iff_of_nodup (nodup_of_map _ (told_nodup hu h)) (nodup_of_map _ (up_nodup (applyL_up cs hu)))).2 (told_mem hu h hl)
theorem told_sorted (hu : Up l) (h : Told (lastC cs) left D) (hl : ∀ s, left s = false) {l' : List Ent} (hp : l'.Perm (unch (lastC cs) l ++ D)) (hs : l'.Pairwise (fun x y => ltB y.k x.k = false)) : l' = applyL l cs := by
  have u1 := up_perm hp (told_nodup hu h) hs
  have u2 := applyL_up cs hu
  refine ext_get u1 u2 (fun k => Option.ext fun v => ?_)
  rw [getE_iff u1, getE_iff u2]
  exact (hp.trans (told_perm hu h hl)).mem_iff
end
end Go.Proofs.Mdl
namespace Go.Proofs.YtfeonjiiijdibaaGreatDoor
open Go.RowKit Go.Proofs.Mdl
set_option linter.unusedVariables false
set_option linter.unusedSimpArgs false
theorem applyM_no {l : List Ent} {cs : List Chg} (h : ¬ checkN l = 0) : applyM l cs = ([], checkN l) := by unfold applyM; rw [if_neg h]
theorem applyM_bad {l : List Ent} {cs : List Chg} (h : checkN l = 0) {c : Chg} (hc : c ∈ cs) (h2 : chOk c = false) : applyM l cs = ([], 1) := by
  unfold applyM
  rw [if_pos h, if_neg]
  intro h3
  have := List.all_eq_true.1 h3 c hc
  rw [h2] at this
  cases this
theorem chOk_key {c : Chg} (h : chOk c = true) : c.k.size ≤ maxLen := by
  unfold chOk keyOk at h
  simp only [Bool.and_eq_true, decide_eq_true_eq] at h
  exact Nat.le_trans h.1.2 (by decide)
theorem good_key {l : List Ent} (h : Mdl.Good l) : ∀ e ∈ l, e.k.size ≤ maxLen := fun e he => by
  have := h.ok e he
  unfold entOk keyOk at this
  simp only [Bool.and_eq_true, decide_eq_true_eq] at this
  exact Nat.le_trans this.1.2 (by decide)
theorem leftOf (left : Go.Lit → Bool) (x : ByteArray) : ∀ s, (fun s => (fun z => left z && !z.sameKey (kl x)) (kl s)) s = ((fun s => left (kl s)) s && !decide (s = x)) := fun s => by
  show (left (kl s) && !(kl s).sameKey (kl x)) = _
  rw [kl_same]
theorem own_block {w : World} {base : Nat} {T : TypeId} {k : Nat} {v : Value} {n : Nat} {xs : List Value} (h : w.ownsRow base T k v n xs) {g : Nat} (hg : v.ownBlock = some g) : base ≤ g ∧ g < w.heap.size := by
  rcases h.2 with ⟨rfl, h2⟩ | ⟨g', cap, cur, rfl, hb, hg', _⟩
  · cases hg
  · cases hg
    exact ⟨hb, (Array.getElem?_eq_some_iff.1 hg').1⟩
set_option maxRecDepth 100000 in
set_option maxHeartbeats 4000000 in
theorem apply_any {w : World} {vl vc : Value} {l : List Ent} {cs : List Chg} (hl : Es w vl l) (hc : Cs w vc cs) (h1 : l.length ≤ 1000) (h2 : cs.length ≤ 1000) :
    Calls Tryz.prog 23 #[vl, vc] w fun e w' => ∃ v', e = .returned (.tuple #[v', .int .i64 (applyM l cs).2]) ∧ EsN (fun b => w.heap.size ≤ b) w' v' (applyM l cs).1 ∧ Below w.heap.size w w' := by
  have CK := Lib.hid (check_any hl h1)
  have HL := Lib.hid hl
  have HC := Lib.hid hc
  obtain ⟨Al, cl, rfl⟩ := hl.shape
  obtain ⟨Ac, cc, rfl⟩ := hc.shape
  clear hl hc
  rcases checkN_cases l with h0 | h0 | h0
  rotate_left
  · have HA := Lib.hid (applyM_no (cs := cs) (by rw [h0]; decide : ¬ checkN l = 0))
    rw [h0] at CK HA
    clear h0
    go_enter Tryz.func23, Tryz.ntmps23
    go_wp2_with fail
    refine CK.out.mono ?_
    rintro e w1 ⟨rfl, hb1⟩
    go_wp2_with fail
    go_ret2
    exact ⟨.slice none 0 0, by rw [HA.out]; rfl, by rw [HA.out]; exact EsN.nil _ _, hb1⟩
  · have HA := Lib.hid (applyM_no (cs := cs) (by rw [h0]; decide : ¬ checkN l = 0))
    rw [h0] at CK HA
    clear h0
    go_enter Tryz.func23, Tryz.ntmps23
    go_wp2_with fail
    refine CK.out.mono ?_
    rintro e w1 ⟨rfl, hb1⟩
    go_wp2_with fail
    go_ret2
    exact ⟨.slice none 0 0, by rw [HA.out]; rfl, by rw [HA.out]; exact EsN.nil _ _, hb1⟩
  have GD := Lib.hid (good_iff.1 h0)
  have H0 := Lib.hid h0
  rw [h0] at CK
  clear h0
  obtain ⟨z, hz⟩ : ∃ z, z = cs.length := ⟨_, rfl⟩
  have HZ := Lib.hid hz
  rw [← hz] at h2 HC ⊢
  clear hz
  go_enter Tryz.func23, Tryz.ntmps23
  go_wp2_with fail
  refine CK.out.mono ?_
  rintro e w1 ⟨rfl, hb1⟩
  have HB1 := Lib.hid hb1
  clear hb1 CK
  have hmm := @run_makeMap Tryz.prog
  go_upto_region 5 with (fail)
  have MC := Lib.hid ((Mc.new w1).below ((Below.refl _ _).alloc (Nat.le_refl _) (.cells #[.map (some w1.heap.size)] 78)))
  have BW := Lib.hid ((((Bl.start w).call HB1.out).alloc (.map #[] 0)).alloc (.cells #[.map (some w1.heap.size)] 78))
  have HM : Hid (w.heap.size ≤ w1.heap.size) := Lib.hid HB1.out.size
  have BX := Lib.hid (Blk.new (w1.alloc (.map #[] 0)) 78 #[.map (some w1.heap.size)])
  have PM : Hid (¬ (w1.alloc (.map #[] 0)).heap.size = w1.heap.size) := Lib.hid (by rw [World.size_alloc]; omega)
  have hsz : w1.heap.size + 1 = (w1.alloc (.map #[] 0)).heap.size := by rw [World.size_alloc]
  rw [hsz]
  clear hsz
  generalize (w1.alloc (.map #[] 0)).alloc (.cells #[.map (some w1.heap.size)] 78) = w2 at *
  generalize (w1.alloc (.map #[] 0)).heap.size = p at *
  generalize w1.heap.size = m at *
  clear HB1
  go_wp2_with fail
  go_loopw [22] (fun vi wr => ∃ k : Nat, vi = .int .i64 (k : Int) ∧ k ≤ z ∧ Hid (Mc wr m (lastC (cs.take k)) k) ∧ Hid (Blk wr p 78 #[.map (some m)]) ∧ Hid (∀ c ∈ cs.take k, chOk c = true) ∧ Hid (Bl w.heap.size w wr)) (fun vi _ => z - (intOf vi).toNat)
  case atStart => exact ⟨0, rfl, Nat.zero_le _, MC, BX, Lib.hid (fun c hc => by cases hc), BW⟩
  case round =>
    clear MC BX BW
    obtain ⟨k, rfl, hk, MC, BX, OK, BW⟩ := hrel
    by_cases hlt : k < z
    · obtain ⟨x, hx⟩ : ∃ x, cs[k]? = some x := ⟨_, List.getElem?_eq_getElem (by rw [← HZ.out]; exact hlt)⟩
      obtain ⟨b, o, c', hv, hbl, d0, d1, d2⟩ := (HC.out.below BW.out.1).at_ hx
      simp only [Value.slice.injEq] at hv
      obtain ⟨rfl, -, -⟩ := hv
      have STEP := Lib.hid (lastC_step hx)
      have HX := Lib.hid hx
      have XIN := Lib.hid (List.mem_of_getElem? hx)
      have CH := Lib.hid (fun W => changeMay_any x W)
      have HX2 := Lib.hid (Blk.new wr 58 #[.string x.k, .string x.v, .bool x.gone])
      have b1 : Below wr.heap.size wr (wr.alloc (.cells #[.string x.k, .string x.v, .bool x.gone] 58)) := (Below.refl _ _).alloc (Nat.le_refl _) _
      have MC1 := Lib.hid (MC.out.below b1)
      have BX1 := Lib.hid (BX.out.below b1)
      have BW1 := Lib.hid (BW.out.call b1)
      have i1 : (k : Int) < (z : Int) := by omega
      have wk : IntKind.i64.wrap ((k : Int) + 1) = (k : Int) + 1 := IntWalk.i64_in _ (by omega)
      obtain ⟨r, hr⟩ : ∃ r, r = chOk x := ⟨_, rfl⟩
      rw [← hr] at CH
      have HR := Lib.hid hr
      obtain ⟨xk, xv, xg⟩ := x
      simp only at d0 d1 d2 HX2 b1 MC1 BX1 BW1 CH
      clear hx hr b1
      go_upto_region 8 with (fail)
      have h1 := Lib.hid (Nat.lt_of_lt_of_eq (Nat.lt_succ_self wr.heap.size) (World.size_alloc wr (.cells #[.string xk, .string xv, .bool xg] 58)).symm)
      generalize wr.alloc (.cells #[.string xk, .string xv, .bool xg] 58) = w3 at *
      generalize wr.heap.size = g at *
      have e0 := HX2.out.cell 0
      have e1 := HX2.out.cell 1
      have e2 := HX2.out.cell 2
      simp only [List.getElem?_toArray, List.getElem?_cons_succ, List.getElem?_cons_zero] at e0 e1 e2
      clear d0 d1 d2 hbl MC BX BW
      cases r with
      | false =>
        go_wp2_with (go_at_call 50; refine (CH.out _).mono ?_; rintro e w4 ⟨rfl, hb4⟩)
        go_ret2
        have HA := applyM_bad H0.out XIN.out HR.out.symm
        exact ⟨.slice none 0 0, by rw [HA]; rfl, by rw [HA]; exact EsN.nil _ _, (BW1.out.call hb4).1⟩
      | true =>
        have KL := Lib.hid (chOk_key HR.out.symm)
        go_upto_region 10 with (go_at_call 50; refine (CH.out _).mono ?_; rintro e w4 ⟨rfl, hb4⟩; have HB4 := Lib.hid hb4; clear hb4)
        have q0 := (HB4.out.cell (p := ⟨g, 0, none⟩) h1.out).trans e0
        have q1 := (HB4.out.cell (p := ⟨g, 1, none⟩) h1.out).trans e1
        have q2 := (HB4.out.cell (p := ⟨g, 2, none⟩) h1.out).trans e2
        have MC4 := Lib.hid (MC1.out.below HB4.out)
        have BX4 := Lib.hid (BX1.out.below HB4.out)
        have BW4 := Lib.hid (BW1.out.call HB4.out)
        have qm := BX4.out.cell 0
        simp only [List.getElem?_toArray, List.getElem?_cons_zero] at qm
        obtain ⟨w5, hput, hmc, hgr⟩ := MC4.out.put ⟨xk, xv, xg⟩ KL.out (by unfold maxLen; omega)
        unfold chVal at hput
        simp only at hput hmc
        have MC5 := Lib.hid hmc
        have GR5 := Lib.hid hgr
        clear hmc hgr e0 e1 e2
        go_wp2_with fail
        refine ⟨⟨k + 1, rfl, hlt, Lib.hid ?_, Lib.hid ?_, Lib.hid ?_, Lib.hid ?_⟩, by simp [intOf]; omega⟩
        · rw [STEP.out]; exact MC5.out
        · exact BX4.out.grown GR5.out (fun e => PM.out (Option.some.inj e).symm)
        · intro c hc
          rw [List.take_add_one, HX.out, Option.toList_some] at hc
          rcases List.mem_append.1 hc with hc | hc
          · exact OK.out c hc
          · rw [List.mem_singleton.1 hc]; exact HR.out.symm
        · exact Far.bl BW4.out ((Far.refl (fun i => i = m) _).grown GR5.out (fun i _ e => (Option.some.inj e).symm)) (fun i e => by rw [e]; exact HM.out)
    · have i1 : ¬ (k : Int) < (z : Int) := by omega
      obtain rfl : k = z := by omega
      have tk : cs.take k = cs := by rw [HZ.out, List.take_length]
      rw [tk] at MC OK
      have KEY := Lib.hid (good_key GD.out)
      have PS := Lib.hid BX.out.lt
      have PC := BX.out.cell 0
      simp only [List.getElem?_toArray, List.getElem?_cons_zero] at PC
      have CUT := Lib.hid (cut_any (HL.out.below BW.out.1) PS.out PC MC.out h1 KEY.out)
      clear tk PC i1
      go_upto_region 13 with (go_at_call 51; refine CUT.out.mono ?_; rintro e w3 ⟨v3, rfl, hown, hb⟩; have OW := Lib.hid hown; have HB := Lib.hid hb; clear hown hb)
      have MC3 := Lib.hid (MC.out.below HB.out)
      have BX3 := Lib.hid (BX.out.below HB.out)
      have BW3 := Lib.hid (BW.out.call HB.out)
      have qm := BX3.out.cell 0
      simp only [List.getElem?_toArray, List.getElem?_cons_zero] at qm
      obtain ⟨D, hown, hh, ha⟩ := MC3.out
      have HOWN := Lib.hid hown
      have HH := Lib.hid hh
      have HA := Lib.hid ha
      have ML := Lib.hid MC3.out.lt
      have WL := Lib.hid (Nat.lt_of_lt_of_le PS.out (Nat.le_refl _))
      have MB := Lib.hid MC.out.lt
      have BS := Lib.hid BW.out.2
      clear hown hh ha MC MC3 CUT BW
      have BZ : Hid (wr.heap.size ≤ w3.heap.size) := Lib.hid HB.out.size
      generalize wr.heap.size = B at *
      go_upto_region 14 with (at_range; refine wpList_range_own _ rfl _ 78 rfl 9 58 strKeyed Tryz.underlying78 _ m k D rfl HOWN.out ?_; intro w4 hrg1 hg1 hs1)
      obtain ⟨r, hr⟩ : ∃ r, r = w3.heap.size := ⟨_, rfl⟩
      rw [← hr] at hrg1 hs1 ⊢
      have RW : Hid (w.heap.size ≤ r) := Lib.hid (by rw [hr]; exact BW3.out.2)
      have START : Hid (∃ (left : Go.Lit → Bool) (cnt : Nat) (E : List Ent), w4.ranges Tryz.prog 9 chElem m r k D left cnt ∧ Mdl.Told (lastC cs) (fun s => left (kl s)) E ∧ (∀ g, v3.ownBlock = some g → ¬ g = r ∧ B ≤ g) ∧ w4.ownsRow B 61 2 v3 (unch (lastC cs) l ++ E).length (flatE (unch (lastC cs) l ++ E)) ∧ Bl w.heap.size w w4) := Lib.hid (by
        have F : Far (fun _ => False) w3 w4 := (Far.refl _ w3).grown hg1 (fun i _ e => by cases e)
        refine ⟨_, _, [], hrg1, Mdl.Told.start HH.out, fun g hg => ?_, by rw [List.append_nil]; exact own_far OW.out F (fun _ _ h => h), Far.bl BW3.out F (fun _ h => h.elim)⟩
        have h1 := own_block OW.out hg
        exact ⟨by omega, h1.1⟩)
      have BR : Hid (B ≤ r) := Lib.hid (by rw [hr]; exact BZ.out)
      have MR : Hid (¬ m = r) := Lib.hid (by have := ML.out; omega)
      clear hr hrg1 hg1 hs1 OW BW3 BX3 qm HOWN
      go_frame
      go_loopw [10] (fun v10 wx => Hid (∃ (left : Go.Lit → Bool) (cnt : Nat) (E : List Ent), wx.ranges Tryz.prog 9 chElem m r k D left cnt ∧ Mdl.Told (lastC cs) (fun s => left (kl s)) E ∧ (∀ g, v10.ownBlock = some g → ¬ g = r ∧ B ≤ g) ∧ wx.ownsRow B 61 2 v10 (unch (lastC cs) l ++ E).length (flatE (unch (lastC cs) l ++ E)) ∧ Bl w.heap.size w wx)) (fun _ wx => wx.rangeLeft m r)
      case atStart => exact START
      case round =>
        obtain ⟨left, cnt, E, hrg, htd, hob, hown, hbl⟩ := hrel.out
        clear START hrel
        have HRG := Lib.hid hrg
        have TD := Lib.hid htd
        have OB := Lib.hid hob
        have OW := Lib.hid hown
        have BW := Lib.hid hbl
        obtain ⟨nn, hnn⟩ : ∃ nn, nn = (unch (lastC cs) l ++ E).length := ⟨_, rfl⟩
        have NN := Lib.hid hnn
        rw [← hnn] at OW
        obtain ⟨A10, c10, hv10⟩ := own_shape OW.out
        have N0 : Hid (nn ≤ 2000) := Lib.hid (by
          rw [hnn, List.length_append]
          have h3 : (unch (lastC cs) l).length ≤ l.length := List.length_filter_le _ _
          have h4 := TD.out.few
          have := HZ.out
          omega)
        clear hnn
        subst hv10
        clear hrg htd hob hown hbl
        go_wp2_with (first
          | (at_next; refine wpList_next_ranges _ rfl _ rfl 9 strKeyed chElem Value.string chVal (fun _ _ h => key_inv h) (fun _ _ h => by obtain ⟨c, h, _⟩ := chElem_inv h; exact ⟨c, h⟩) m r k D left cnt rfl HRG.out ?_ ?_)
          | go_in)
        · intro _ hl0
          have LZ : Hid (∀ s : ByteArray, (fun s => left (kl s)) s = false) := Lib.hid (fun s => hl0 (kl s))
          have PM2 := Lib.hid (told_perm GD.out.up TD.out LZ.out)
          have NL : Hid (nn = (applyL l cs).length) := Lib.hid (by rw [NN.out]; exact PM2.out.length_eq)
          have CM := Lib.hid (fun W => countMay_any nn W)
          clear hl0
          by_cases h40 : 40 < nn
          · have HA2 : Hid (applyM l cs = ([], 12)) := Lib.hid (by
              unfold applyM
              rw [if_pos H0.out, if_pos (List.all_eq_true.2 OK.out), if_pos (by rw [← NL.out]; exact h40)])
            rw [if_pos h40] at CM
            clear h40
            go_wp2_with (go_at_call 45; refine (CM.out _).mono ?_; rintro e w6 ⟨rfl, rfl⟩)
            go_ret2
            exact ⟨.slice none 0 0, by rw [HA2.out]; rfl, by rw [HA2.out]; exact EsN.nil _ _, BW.out.1⟩
          · have HA2 : Hid (applyM l cs = (applyL l cs, 0)) := Lib.hid (by
              unfold applyM
              rw [if_pos H0.out, if_pos (List.all_eq_true.2 OK.out), if_neg (by rw [← NL.out]; exact h40)])
            rw [if_neg h40] at CM
            clear h40
            have OWS : wr.ownsRow B 61 2 (.slice A10 nn c10) (unch (lastC cs) l ++ E).length (flatE (unch (lastC cs) l ++ E)) := by rw [← NN.out]; exact OW.out
            have SRT := Lib.hid (sort_any wr B (.slice A10 nn c10) _ OWS (by rw [← NN.out]; have := N0.out; omega))
            clear OWS
            go_wp2_with (first
              | (go_at_call 45; refine (CM.out _).mono ?_; rintro e w6 ⟨rfl, rfl⟩)
              | (go_at_call 53; refine SRT.out.mono ?_; rintro e w6 ⟨rfl, l', hp, hpw, hown, hfar⟩; have HP := Lib.hid hp; have HPW := Lib.hid hpw; have OW6 := Lib.hid hown; have FF := Lib.hid hfar; clear hp hpw hown hfar))
            go_ret2
            have hl' := told_sorted GD.out.up TD.out LZ.out HP.out HPW.out
            subst hl'
            refine ⟨_, by rw [HA2.out]; rfl, ?_, (Far.bl BW.out FF.out (fun i e => Nat.le_trans BS.out (OB.out i e).2)).1⟩
            rw [HA2.out]
            have := OW6.out
            rw [PM2.out.length_eq] at this
            exact EsN.of_own this BS.out
        · intro x c lk y ps w5 cnt2 hkey hlk hval hat hrg2 hlt hg2 hs2 hen
          obtain ⟨hxs, rfl⟩ := key_inv2 hkey
          obtain ⟨c2, hce, hye⟩ := chElem_inv hval
          have hhas : Maps.has D (kl x) = true := Maps.has_true_of_atKey (fun z => hat z)
          rw [HH.out x] at hhas
          obtain ⟨c', hf⟩ := Option.isSome_iff_exists.1 hhas
          have hcc : c' = c := by
            have h3 := (HA.out x c' hf).2 (.held c')
            have h4 := hat (.held c')
            rw [h4] at h3
            rw [chElem_val] at hval
            cases hval
            simpa using h3.symm
          subst hcc
          have HF := Lib.hid hf
          have HLK := Lib.hid hlk
          have HLT := Lib.hid hlt
          have F5 : Far (fun i => i = r) wr w5 := (Far.refl _ wr).grown hg2 (fun i _ e => (Option.some.inj e).symm)
          have OW5 := Lib.hid (own_far OW.out F5 (fun i hi e => (OB.out i hi).1 e))
          have BW5 := Lib.hid (Far.bl BW.out F5 (fun i e => by rw [e]; exact RW.out))
          have RG5 := Lib.hid hrg2
          have LF := leftOf left x
          have LFF := Lib.hid LF
          obtain ⟨xk, xv, xg⟩ := c'
          unfold chVal at hen ⊢
          simp only at hen ⊢
          have HX2 := Lib.hid (Blk.new w5 58 #[.string xk, .string xv, .bool xg])
          have RG6 := Lib.hid (RG5.out.alloc (.cells #[.string xk, .string xv, .bool xg] 58))
          have OW6 := Lib.hid (World.ownsRow.alloc OW5.out (.cells #[.string xk, .string xv, .bool xg] 58))
          have BW6 := Lib.hid (BW5.out.alloc (.cells #[.string xk, .string xv, .bool xg] 58))
          clear hkey hlk hval hat hrg2 hlt hg2 hs2 hce hye hhas hf hxs F5 LF RG5 OW5 BW5 OW BW
          go_upto_region 16 with (fail)
          generalize w5.alloc (.cells #[.string xk, .string xv, .bool xg] 58) = w6 at *
          generalize w5.heap.size = g at *
          have e1 := HX2.out.cell 1
          have e2 := HX2.out.cell 2
          simp only [List.getElem?_toArray, List.getElem?_cons_succ, List.getElem?_cons_zero] at e1 e2
          clear hen
          cases xg with
          | true =>
            go_wp2_with fail
            refine ⟨Lib.hid ⟨_, cnt2, E, RG6.out, TD.out.gone HF.out rfl _ LFF.out, OB.out, by rw [← NN.out]; exact OW6.out, BW6.out⟩, ?_⟩
            rw [RG6.out.left_eq, HRG.out.left_eq]
            exact HLT.out
          | false =>
            have BA := Lib.hid (BW6.out.alloc (.cells #[.string x, .string xv] 61))
            have NC := Lib.hid (new_cells w6 61 [.string x, .string xv])
            have RL := Lib.hid RG6.out.lt
            have NB : Hid (B ≤ (w6.alloc (.cells #[.string x, .string xv] 61)).heap.size) := Lib.hid (by have := BR.out; have := RL.out; rw [World.size_alloc]; omega)
            have N1 : Hid (nn + 1 ≤ 1000000) := Lib.hid (by have := N0.out; omega)
            have OM : Hid (∀ y ∈ ([.string x, .string xv] : List Value), y.oneCell' = true) := Lib.hid (one_flatE [⟨x, xv⟩])
            go_wp2_with (first
              | (at_builtin; refine wpList_append_own (k := 2) (T := 61) (S := 22) elemEnts infoEnts rfl (by decide) (by decide) rfl _ _ rfl rfl B _ _ (flatE (unch (lastC cs) l ++ E)) w6.heap.size 0 1 1 [.string x, .string xv] rfl rfl (World.ownsRow.alloc OW6.out _) rfl NC.out OM.out N1.out NB.out ?_; intro v5 wb own5 gr5 hob5)
              | go_in)
            have RG7 := (RG6.out.alloc (.cells #[.string x, .string xv] 61)).kept gr5 (fun e => by have := (OB.out m e.symm).2; have := MB.out; omega) (fun e => (OB.out r e.symm).1 rfl)
            refine ⟨Lib.hid ⟨_, cnt2, E ++ [⟨x, xv⟩], RG7, TD.out.more (c := ⟨xk, xv, false⟩) HF.out rfl HLK.out _ LFF.out, ?_, ?_, ?_⟩, ?_⟩
            · intro i hi
              rcases hob5 with h3 | h3
              · rw [h3] at hi; exact OB.out i hi
              · rw [h3] at hi
                cases hi
                rw [World.size_alloc]
                have := RL.out
                have := BR.out
                exact ⟨by omega, by omega⟩
            · rw [← List.append_assoc, flatE_append, List.length_append, ← NN.out]
              exact own5
            · exact Far.bl BA.out ((Far.refl (fun i => B ≤ i) _).grown gr5 (fun i _ e => (OB.out i e).2)) (fun i h => Nat.le_trans BS.out h)
            · rw [RG7.left_eq, HRG.out.left_eq]
              exact HLT.out
end Go.Proofs.YtfeonjiiijdibaaGreatDoor
