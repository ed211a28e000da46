/-
  Merged: MdlRefA, MdlRefC.
-/
import Derived.Test.YtfeonjiiijdibaaGreatDoorMdlRefEq
import Derived.Deep.DrawnRows
import Derived.Test.YtfeonjiiijdibaaGreatDoorGaMdB
namespace Go.Proofs.Mdl
theorem lt_step : ∀ (k : Nat) {a b : List UInt8} {x y : UInt8}, a.take k = b.take k → a[k]? = some x → b[k]? = some y → ¬ x = y → (a < b ↔ x < y)
  | 0, x' :: a, y' :: b, x, y, _, ha, hb, hne => by
    simp only [List.getElem?_cons_zero, Option.some.injEq] at ha hb
    subst ha; subst hb
    rw [List.cons_lt_cons_iff]
    constructor
    · rintro (h | ⟨h, _⟩)
      · exact h
      · exact absurd h hne
    · exact .inl
  | 0, [], b, x, y, _, ha, _, _ => by simp at ha
  | 0, x' :: a, [], x, y, _, _, hb, _ => by simp at hb
  | k + 1, [], b, x, y, _, ha, _, _ => by simp at ha
  | k + 1, x' :: a, [], x, y, _, _, hb, _ => by simp at hb
  | k + 1, x' :: a, y' :: b, x, y, h, ha, hb, hne => by
    simp only [List.take_succ_cons, List.cons.injEq] at h
    obtain ⟨rfl, h⟩ := h
    simp only [List.getElem?_cons_succ] at ha hb
    rw [List.cons_lt_cons_iff, ← lt_step k h ha hb hne]
    constructor
    · rintro (h | ⟨_, h⟩)
      · exact absurd h (UInt8.lt_irrefl _)
      · exact h
    · exact fun h => .inr ⟨rfl, h⟩
theorem lt_end : ∀ (k : Nat) {a b : List UInt8}, a.take k = b.take k → (k = a.length ∨ k = b.length) → k ≤ a.length → k ≤ b.length → (a < b ↔ a.length < b.length)
  | 0, a, b, _, h, _, _ => by
    rcases h with h | h
    · have : a = [] := List.length_eq_zero_iff.1 h.symm
      subst this
      cases b with
      | nil => simp
      | cons y b => simp
    · have : b = [] := List.length_eq_zero_iff.1 h.symm
      subst this
      simp
  | k + 1, [], b, _, _, h, _ => by simp at h
  | k + 1, x :: a, [], _, _, _, h => by simp at h
  | k + 1, x :: a, y :: b, h, hk, h1, h2 => by
    simp only [List.take_succ_cons, List.cons.injEq] at h
    obtain ⟨rfl, h⟩ := h
    simp only [List.length_cons] at hk h1 h2 ⊢
    rw [List.cons_lt_cons_iff]
    have ih := lt_end k h (by omega) (by omega) (by omega)
    constructor
    · rintro (h | ⟨_, h⟩)
      · exact absurd h (UInt8.lt_irrefl _)
      · have := ih.1 h; omega
    · exact fun h => .inr ⟨rfl, ih.2 (by omega)⟩
end Go.Proofs.Mdl
namespace Go.Proofs.YtfeonjiiijdibaaGreatDoor
open Go.RowKit Go.Proofs.Mdl
set_option linter.unusedVariables false
set_option linter.unusedSimpArgs false
theorem ltB_dec (a b : ByteArray) : ltB a b = decide (a.data.toList < b.data.toList) := by
  by_cases h : a.data.toList < b.data.toList
  · rw [decide_eq_true h]; exact ltB_iff.2 h
  · rw [decide_eq_false h, Bool.eq_false_iff]
    exact fun e => h (ltB_iff.1 e)
theorem size_data (a : ByteArray) : a.data.toList.length = a.size := by simp
theorem byte_at (a : ByteArray) {k : Nat} (h : k < a.size) : a.data.toList[k]? = some a[k] := by
  rw [List.getElem?_eq_getElem (by simpa using h)]
  simp
  rfl
set_option maxRecDepth 100000 in
set_option maxHeartbeats 1000000 in
theorem ahead_any (a b : ByteArray) (ha : a.size ≤ 1000000) (hb : b.size ≤ 1000000) (w : World) :
    Calls Tryz.prog 39 #[.string a, .string b] w fun e w' => e = .returned (.bool (ltB a b)) ∧ ∃ q, w' = w.drewN q := by
  obtain ⟨r, hr⟩ : ∃ r, r = ltB a b := ⟨_, rfl⟩
  rw [← hr]
  have HR := Lib.hid hr
  clear hr
  go_enter Tryz.func39, Tryz.ntmps39
  go_wp2_with fail
  go_loopw [5] (fun vi wr => ∃ k q : Nat, vi = .int .i64 (k : Int) ∧ k ≤ a.size ∧ k ≤ b.size ∧ Hid (a.data.toList.take k = b.data.toList.take k) ∧ wr = w.drewN q) (fun vi _ => a.size - (intOf vi).toNat)
  case atStart => exact ⟨0, 0, rfl, Nat.zero_le _, Nat.zero_le _, Lib.hid (by simp), rfl⟩
  case round =>
    obtain ⟨k, q, rfl, hka, hkb, HT, rfl⟩ := hrel
    have wk : IntKind.i64.wrap ((k : Int) + 1) = (k : Int) + 1 := IntWalk.i64_in _ (by omega)
    by_cases h1 : k < a.size
    · have i1 : (k : Int) < (a.size : Int) := by omega
      by_cases h2 : k < b.size
      · have i2 : (k : Int) < (b.size : Int) := by omega
        obtain ⟨x, hx⟩ : ∃ x, a[k] = x := ⟨_, rfl⟩
        obtain ⟨y, hy⟩ : ∃ y, b[k] = y := ⟨_, rfl⟩
        by_cases hxy : x = y
        · have t2 : ((x.toNat : Int) != (y.toNat : Int)) = false := by rw [hxy]; simp
          have HT2 : Hid (a.data.toList.take (k + 1) = b.data.toList.take (k + 1)) := Lib.hid (by rw [List.take_add_one, List.take_add_one, HT.out, byte_at a h1, byte_at b h2, hx, hy, hxy])
          clear hxy
          go_wp2_with fail
          go_quiet (fail)
          go_wp2_with fail
          exact ⟨⟨k + 1, _, by go_num, by omega, by omega, HT2, rfl⟩, by simp [intOf]; omega⟩
        · have t2 : ((x.toNat : Int) != (y.toNat : Int)) = true := by rw [bne_iff_ne]; intro e; exact hxy (UInt8.toNat_inj.1 (by exact_mod_cast e))
          have HL : Hid (r = decide (x < y)) := Lib.hid (by
            have h3 := lt_step k HT.out (byte_at a h1) (byte_at b h2) (by rw [hx, hy]; exact hxy)
            rw [HR.out]
            rw [hx, hy] at h3
            by_cases h4 : x < y
            · rw [decide_eq_true h4]; exact ltB_iff.2 (h3.2 h4)
            · rw [decide_eq_false h4]
              rw [Bool.eq_false_iff]
              intro h5
              exact h4 (h3.1 (ltB_iff.1 h5)))
          clear hxy
          go_wp2_with fail
          go_quiet (fail)
          go_wp2_with fail
          go_quiet (fail)
          go_wp2_with fail
          go_ret
          refine ⟨retB ?_, _, by rw [World.drewN_drewN, World.drewN_drewN]⟩
          rw [HL.out, decide_eq_decide, UInt8.lt_iff_toNat_lt]
      · have i2 : ¬ (k : Int) < (b.size : Int) := by omega
        have e : k = b.size := by omega
        have HL := Lib.hid (lt_end k HT.out (.inr (by rw [e]; simp)) (by simp; omega) (by simp; omega))
        go_wp2_with fail
        go_ret
        refine ⟨retB ?_, _, rfl⟩
        rw [HR.out, ltB_dec, decide_eq_decide, HL.out, size_data, size_data]
    · have i1 : ¬ (k : Int) < (a.size : Int) := by omega
      have e : k = a.size := by omega
      have HL := Lib.hid (lt_end k HT.out (.inl (by rw [e]; simp)) (by simp; omega) (by simp; omega))
      go_wp2_with fail
      go_ret
      refine ⟨retB ?_, _, rfl⟩
      rw [HR.out, ltB_dec, decide_eq_decide, HL.out, size_data, size_data]
theorem rkey_any (k : ByteArray) (w : World) : Calls Tryz.prog 37 #[.string k] w fun e w' => e = .returned (.bool (keyOk k)) ∧ w' = w := by
  have hd : keyOk k = (decide (1 ≤ k.size) && decide (k.size ≤ 6)) := rfl
  have HD := Lib.hid hd
  by_cases h1 : 1 ≤ k.size
  · have i1 : (1 : Int) ≤ (k.size : Int) := by omega
    by_cases h2 : k.size ≤ 6
    · have i2 : (k.size : Int) ≤ 6 := by omega
      clear hd
      go_enter Tryz.func37, Tryz.ntmps37
      go_wp2_with fail
      go_ret
      exact ⟨retB (by rw [HD.out, decide_eq_true h1, decide_eq_true h2]; rfl), rfl⟩
    · have i2 : ¬ (k.size : Int) ≤ 6 := by omega
      clear hd
      go_enter Tryz.func37, Tryz.ntmps37
      go_wp2_with fail
      go_ret
      exact ⟨retB (by rw [HD.out, decide_eq_true h1, decide_eq_false h2]; rfl), rfl⟩
  · have i1 : ¬ (1 : Int) ≤ (k.size : Int) := by omega
    clear hd
    go_enter Tryz.func37, Tryz.ntmps37
    go_wp2_with fail
    go_ret
    exact ⟨retB (by rw [HD.out, decide_eq_false h1]; rfl), rfl⟩
theorem rval_any (k : ByteArray) (w : World) : Calls Tryz.prog 38 #[.string k] w fun e w' => e = .returned (.bool (valOk k)) ∧ w' = w := by
  have hd : valOk k = (decide (1 ≤ k.size) && decide (k.size ≤ 80)) := rfl
  have HD := Lib.hid hd
  by_cases h1 : 1 ≤ k.size
  · have i1 : (1 : Int) ≤ (k.size : Int) := by omega
    by_cases h2 : k.size ≤ 80
    · have i2 : (k.size : Int) ≤ 80 := by omega
      clear hd
      go_enter Tryz.func38, Tryz.ntmps38
      go_wp2_with fail
      go_ret
      exact ⟨retB (by rw [HD.out, decide_eq_true h1, decide_eq_true h2]; rfl), rfl⟩
    · have i2 : ¬ (k.size : Int) ≤ 80 := by omega
      clear hd
      go_enter Tryz.func38, Tryz.ntmps38
      go_wp2_with fail
      go_ret
      exact ⟨retB (by rw [HD.out, decide_eq_true h1, decide_eq_false h2]; rfl), rfl⟩
  · have i1 : ¬ (1 : Int) ≤ (k.size : Int) := by omega
    clear hd
    go_enter Tryz.func38, Tryz.ntmps38
    go_wp2_with fail
    go_ret
    exact ⟨retB (by rw [HD.out, decide_eq_false h1]; rfl), rfl⟩
end Go.Proofs.YtfeonjiiijdibaaGreatDoor
namespace Go.Proofs.YtfeonjiiijdibaaGreatDoor
open Go.RowKit Go.Proofs.Mdl
set_option linter.unusedVariables false
set_option linter.unusedSimpArgs false
theorem qkey (k : ByteArray) (w : World) : Calls Tryz.prog 37 #[.string k] w fun e w' => e = .returned (.bool (keyOk k)) ∧ ∃ q, w' = w.drewN q :=
  (rkey_any k w).mono (fun e w' h => ⟨h.1, 0, h.2⟩)
theorem qval (k : ByteArray) (w : World) : Calls Tryz.prog 38 #[.string k] w fun e w' => e = .returned (.bool (valOk k)) ∧ ∃ q, w' = w.drewN q :=
  (rval_any k w).mono (fun e w' h => ⟨h.1, 0, h.2⟩)
theorem drew_more {w wr : World} {n : Nat} (h : ∃ q, wr = w.drewN q) : ∃ q, wr.drewN n = w.drewN q := by
  obtain ⟨q, rfl⟩ := h
  exact ⟨q + n, World.drewN_drewN _ _ _⟩
theorem drew_bel {w wr : World} (h : ∃ q, wr = w.drewN q) : Below w.heap.size w wr := by
  obtain ⟨q, rfl⟩ := h
  exact ((Bl.start w).drewN q).1
theorem es_drew {w wr : World} {v : Value} {l : List Ent} (h : Es w v l) (k : ∃ q, wr = w.drewN q) : Es wr v l := h.below (drew_bel k)
theorem cs_drew {w wr : World} {v : Value} {l : List Chg} (h : Cs w v l) (k : ∃ q, wr = w.drewN q) : Cs wr v l := h.below (drew_bel k)
theorem keyOk_size {k : ByteArray} (h : keyOk k = true) : k.size ≤ 1000000 := by
  unfold keyOk at h
  rw [Bool.and_eq_true, decide_eq_true_eq, decide_eq_true_eq] at h
  omega
set_option maxRecDepth 100000 in
set_option maxHeartbeats 2000000 in
theorem rcheck_any {w : World} {v : Value} {l : List Ent} (h : Es w v l) (hl : l.length ≤ 1000) :
    Calls Tryz.prog 13 #[v] w fun e w' => e = .returned (.int .i64 (checkN l)) ∧ ∃ q, w' = w.drewN q := by
  obtain ⟨A, c, rfl⟩ := h.shape
  obtain ⟨n, hn⟩ : ∃ n, n = l.length := ⟨_, rfl⟩
  rw [← hn] at h ⊢
  have HE := Lib.hid h
  have HN := Lib.hid hn
  have n1 : n ≤ 1000 := by omega
  clear h hn hl
  go_enter Tryz.func13, Tryz.ntmps13
  go_wp2_with fail
  go_loopw [3] (fun vi wr => ∃ k : Nat, vi = .int .i64 (k : Int) ∧ k ≤ n ∧ Hid (∀ j (x : Ent), j < k → l[j]? = some x → entOk x = true ∧ ∀ i (y : Ent), j = i + 1 → l[i]? = some y → ltB y.k x.k = true) ∧ Hid (∃ q, wr = w.drewN q)) (fun vi _ => n - (intOf vi).toNat)
  case atStart => exact ⟨0, rfl, Nat.zero_le _, Lib.hid (fun j x hj => by omega), Lib.hid ⟨0, rfl⟩⟩
  case round =>
    obtain ⟨k, rfl, hk, HV, QW⟩ := hrel
    have HEr := Lib.hid (es_drew HE.out QW.out)
    have wk : IntKind.i64.wrap ((k : Int) + 1) = (k : Int) + 1 := IntWalk.i64_in _ (by omega)
    by_cases hlt : k < n
    · obtain ⟨x, hx⟩ : ∃ x, l[k]? = some x := ⟨_, List.getElem?_eq_getElem (by rw [← HN.out]; exact hlt)⟩
      obtain ⟨b, o, c', hv, hbl, d0, d1⟩ := HEr.out.at_ hx
      simp only [Value.slice.injEq] at hv
      obtain ⟨rfl, -, -⟩ := hv
      have HX := Lib.hid hx
      have i1 : (k : Int) < (n : Int) := by omega
      obtain ⟨ek, ev⟩ := x
      simp only at d0 d1
      clear hx hbl
      rcases hk' : keyOk ek with _ | _
      · have KM := Lib.hid (fun W => hk' ▸ qkey ek W)
        have HBAD : Hid (adj l = false) := Lib.hid (adj_bad HX.out (fun h => by have := h.1; unfold entOk at this; rw [hk'] at this; cases this))
        clear hk'
        go_wp2_with fail
        go_quiet ((go_at_call 37; exact quietly0 (KM.out _)))
        go_wp2_with fail
        go_ret
        exact ⟨by rw [checkN, if_neg (by rw [HBAD.out]; exact Bool.false_ne_true)]; rfl, drew_more QW.out⟩
      · have KM := Lib.hid (fun W => hk' ▸ qkey ek W)
        rcases hv' : valOk ev with _ | _
        · have VM := Lib.hid (fun W => hv' ▸ qval ev W)
          have HBAD : Hid (adj l = false) := Lib.hid (adj_bad HX.out (fun h => by have := h.1; unfold entOk at this; rw [hk', hv'] at this; cases this))
          clear hk' hv'
          go_wp2_with fail
          go_quiet (first | (go_at_call 37; exact quietly0 (KM.out _)) | (go_at_call 38; exact quietly0 (VM.out _)))
          go_wp2_with fail
          go_ret
          exact ⟨by rw [checkN, if_neg (by rw [HBAD.out]; exact Bool.false_ne_true)]; rfl, drew_more QW.out⟩
        · have VM := Lib.hid (fun W => hv' ▸ qval ev W)
          have EOK : Hid (entOk ⟨ek, ev⟩ = true) := Lib.hid (by unfold entOk; rw [hk', hv']; rfl)
          have KS := Lib.hid (keyOk_size hk')
          clear hk' hv'
          cases k with
          | zero =>
            simp only [Nat.zero_mul, Nat.add_zero] at d0 d1
            have HV2 : Hid (∀ j (x : Ent), j < 0 + 1 → l[j]? = some x → entOk x = true ∧ ∀ i (y : Ent), j = i + 1 → l[i]? = some y → ltB y.k x.k = true) := Lib.hid (fun j x hj hx => by
              obtain rfl : j = 0 := by omega
              rw [HX.out] at hx
              cases hx
              exact ⟨EOK.out, fun i y hi => by omega⟩)
            go_wp2_with fail
            go_quiet (first | (go_at_call 37; exact quietly0 (KM.out _)) | (go_at_call 38; exact quietly0 (VM.out _)))
            go_wp2_with fail
            exact ⟨⟨0 + 1, by go_num, by omega, HV2, Lib.hid (drew_more QW.out)⟩, by simp [intOf]; omega⟩
          | succ kj =>
            obtain ⟨y, hy⟩ : ∃ y, l[kj]? = some y := ⟨_, List.getElem?_eq_getElem (by rw [← HN.out]; omega)⟩
            obtain ⟨b', o', c'', hv, hbl, e0, e1⟩ := HEr.out.at_ hy
            simp only [Value.slice.injEq, Option.some.injEq, Addr.mk.injEq] at hv
            obtain ⟨⟨rfl, rfl, -⟩, -, -⟩ := hv
            obtain ⟨pk, pv⟩ := y
            simp only at e0 e1
            have HY := Lib.hid hy
            have j1 : (kj : Int) < (n : Int) := by omega
            have wj : IntKind.i64.wrap (((kj + 1 : Nat) : Int) - 1) = (kj : Int) := by rw [show ((kj + 1 : Nat) : Int) - 1 = (kj : Int) by omega]; exact IntWalk.i64_in _ (by omega)
            have g0 : (0 : Int) < ((kj + 1 : Nat) : Int) := by omega
            have PS : Hid (pk.size ≤ 1000000) := Lib.hid (by
              have h1 := (HV.out kj _ (by omega) hy).1
              unfold entOk at h1
              rw [Bool.and_eq_true] at h1
              exact keyOk_size h1.1)
            clear hy hbl
            rcases hq : ltB pk ek with _ | _
            · have AM := Lib.hid (fun W => hq ▸ ahead_any pk ek PS.out KS.out W)
              have HBAD : Hid (adj l = false) := Lib.hid (adj_bad HX.out (fun h => by have := h.2 kj _ rfl HY.out; rw [hq] at this; cases this))
              clear hq
              go_wp2_with fail
              go_quiet (first | (go_at_call 37; exact quietly0 (KM.out _)) | (go_at_call 38; exact quietly0 (VM.out _)) | (go_at_call 39; exact quietly0 (AM.out _)))
              go_wp2_with fail
              go_ret
              exact ⟨by rw [checkN, if_neg (by rw [HBAD.out]; exact Bool.false_ne_true)]; rfl, drew_more QW.out⟩
            · have AM := Lib.hid (fun W => hq ▸ ahead_any pk ek PS.out KS.out W)
              have HV2 : Hid (∀ j (x : Ent), j < kj + 1 + 1 → l[j]? = some x → entOk x = true ∧ ∀ i (y : Ent), j = i + 1 → l[i]? = some y → ltB y.k x.k = true) := Lib.hid (fun j x hj hx => by
                by_cases he : j = kj + 1
                · subst he
                  rw [HX.out] at hx
                  cases hx
                  refine ⟨EOK.out, fun i y hi hy => ?_⟩
                  obtain rfl : kj = i := by omega
                  rw [HY.out] at hy
                  cases hy
                  exact hq
                · exact HV.out j x (by omega) hx)
              clear hq
              go_wp2_with fail
              go_quiet (first | (go_at_call 37; exact quietly0 (KM.out _)) | (go_at_call 38; exact quietly0 (VM.out _)) | (go_at_call 39; exact quietly0 (AM.out _)))
              go_wp2_with fail
              exact ⟨⟨kj + 1 + 1, by go_num, by omega, HV2, Lib.hid (drew_more QW.out)⟩, by simp [intOf]; omega⟩
    · obtain rfl : k = n := by omega
      have i1 : ¬ (k : Int) < (k : Int) := by omega
      have GD : Hid (adj l = true) := Lib.hid ((adj_iff l).2 (fun j x hj => HV.out j x (by have := (List.getElem?_eq_some_iff.1 hj).1; have := HN.out; omega) hj))
      by_cases h40 : 40 < k
      · have z1 : (40 : Int) < (k : Int) := by omega
        have HZ : Hid (checkN l = 12) := Lib.hid (by rw [checkN, if_pos GD.out, if_pos (by rw [← HN.out]; exact h40)])
        clear h40
        go_wp2_with fail
        go_ret
        exact ⟨by rw [HZ.out]; rfl, QW.out⟩
      · have z1 : ¬ (40 : Int) < (k : Int) := by omega
        have HZ : Hid (checkN l = 0) := Lib.hid (by rw [checkN, if_pos GD.out, if_neg (by rw [← HN.out]; exact h40)])
        clear h40
        go_wp2_with fail
        go_ret
        exact ⟨by rw [HZ.out]; rfl, QW.out⟩
set_option maxRecDepth 100000 in
set_option maxHeartbeats 2000000 in
theorem rright_any {w : World} {v : Value} {l : List Chg} (h : Cs w v l) (hl : l.length ≤ 1000) :
    Calls Tryz.prog 56 #[v] w fun e w' => e = .returned (.bool (l.all chOk)) ∧ ∃ q, w' = w.drewN q := by
  obtain ⟨A, c, rfl⟩ := h.shape
  obtain ⟨n, hn⟩ : ∃ n, n = l.length := ⟨_, rfl⟩
  rw [← hn] at h ⊢
  have HE := Lib.hid h
  have HN := Lib.hid hn
  have n1 : n ≤ 1000 := by omega
  clear h hn hl
  go_enter Tryz.func56, Tryz.ntmps56
  go_wp2_with fail
  go_loopw [3] (fun vi wr => ∃ k : Nat, vi = .int .i64 (k : Int) ∧ k ≤ n ∧ Hid (∀ x ∈ l.take k, chOk x = true) ∧ Hid (∃ q, wr = w.drewN q)) (fun vi _ => n - (intOf vi).toNat)
  case atStart => exact ⟨0, rfl, Nat.zero_le _, Lib.hid (fun x hx => absurd hx (by simp)), Lib.hid ⟨0, rfl⟩⟩
  case round =>
    obtain ⟨k, rfl, hk, HV, QW⟩ := hrel
    have HEr := Lib.hid (cs_drew HE.out QW.out)
    have wk : IntKind.i64.wrap ((k : Int) + 1) = (k : Int) + 1 := IntWalk.i64_in _ (by omega)
    by_cases hlt : k < n
    · obtain ⟨x, hx⟩ : ∃ x, l[k]? = some x := ⟨_, List.getElem?_eq_getElem (by rw [← HN.out]; exact hlt)⟩
      obtain ⟨b, o, c', hv, hbl, d0, d1, d2⟩ := HEr.out.at_ hx
      simp only [Value.slice.injEq] at hv
      obtain ⟨rfl, -, -⟩ := hv
      have i1 : (k : Int) < (n : Int) := by omega
      have BAD : Hid (chOk x = false → l.all chOk = false) := Lib.hid (fun h => by
        rw [Bool.eq_false_iff]
        intro ha
        have := List.all_eq_true.1 ha x (List.mem_of_getElem? hx)
        rw [h] at this
        cases this)
      have HV2 : Hid (chOk x = true → ∀ y ∈ l.take (k + 1), chOk y = true) := Lib.hid (fun h y hy => by
        rw [List.take_add_one, hx] at hy
        rcases List.mem_append.1 hy with hy | hy
        · exact HV.out y hy
        · simp at hy
          rw [hy]
          exact h)
      obtain ⟨ek, ev, eg⟩ := x
      simp only at d0 d1 d2
      clear hx hbl
      have OKD : Hid (chOk ⟨ek, ev, eg⟩ = (keyOk ek && (if eg then decide (ev.size = 0) else valOk ev))) := Lib.hid rfl
      rcases hk' : keyOk ek with _ | _
      · have KM := Lib.hid (fun W => hk' ▸ rkey_any ek W)
        have HB := Lib.hid (BAD.out (by rw [OKD.out, hk']; rfl))
        clear hk'
        go_wp2_with ((go_at_call 37; refine (KM.out _).mono ?_; rintro e w5 ⟨rfl, rfl⟩))
        go_ret
        exact ⟨retB HB.out.symm, QW.out⟩
      · have KM := Lib.hid (fun W => hk' ▸ rkey_any ek W)
        rcases eg with _ | _
        · rcases hv' : valOk ev with _ | _
          · have VM := Lib.hid (fun W => hv' ▸ rval_any ev W)
            have HB := Lib.hid (BAD.out (by rw [OKD.out, hk', hv']; rfl))
            clear hk' hv'
            go_wp2_with (first | (go_at_call 37; refine (KM.out _).mono ?_; rintro e w5 ⟨rfl, rfl⟩) | (go_at_call 38; refine (VM.out _).mono ?_; rintro e w5 ⟨rfl, rfl⟩))
            go_ret
            exact ⟨retB HB.out.symm, QW.out⟩
          · have VM := Lib.hid (fun W => hv' ▸ rval_any ev W)
            have HG := Lib.hid (HV2.out (by rw [OKD.out, hk', hv']; rfl))
            clear hk' hv'
            go_wp2_with (first | (go_at_call 37; refine (KM.out _).mono ?_; rintro e w5 ⟨rfl, rfl⟩) | (go_at_call 38; refine (VM.out _).mono ?_; rintro e w5 ⟨rfl, rfl⟩))
            exact ⟨⟨k + 1, by go_num, by omega, HG, QW⟩, by simp [intOf]; omega⟩
        · by_cases hz : ev.size = 0
          · have HG := Lib.hid (HV2.out (by rw [OKD.out, hk', if_pos rfl, decide_eq_true hz]; rfl))
            have tz : ev.toList.isEmpty = true := by rw [toList_nil.2 hz]; rfl
            clear hk' hz
            go_wp2_with ((go_at_call 37; refine (KM.out _).mono ?_; rintro e w5 ⟨rfl, rfl⟩))
            exact ⟨⟨k + 1, by go_num, by omega, HG, QW⟩, by simp [intOf]; omega⟩
          · have HB := Lib.hid (BAD.out (by rw [OKD.out, hk', if_pos rfl, decide_eq_false hz]; rfl))
            have tz : ev.toList.isEmpty = false := by
              cases hl : ev.toList with
              | nil => exact absurd (toList_nil.1 hl) hz
              | cons _ _ => rfl
            clear hk' hz
            go_wp2_with ((go_at_call 37; refine (KM.out _).mono ?_; rintro e w5 ⟨rfl, rfl⟩))
            go_ret
            exact ⟨retB HB.out.symm, QW.out⟩
    · obtain rfl : k = n := by omega
      have i1 : ¬ (k : Int) < (k : Int) := by omega
      have GD : Hid (l.all chOk = true) := Lib.hid (List.all_eq_true.2 (fun x hx => HV.out x (by rw [HN.out, List.take_length]; exact hx)))
      go_wp2_with fail
      go_ret
      exact ⟨retB GD.out.symm, QW.out⟩
end Go.Proofs.YtfeonjiiijdibaaGreatDoor
