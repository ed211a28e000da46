/-
  CanonGrows: the walk.
-/
import Derived.Test.YtfeonjiiijdibaaGreatDoorCanTwice
import Derived.Test.YtfeonjiiijdibaaGreatDoorCanApart
import Derived.BigQuiet
namespace Go.Proofs.YtfeonjiiijdibaaGreatDoor
open Go.RowKit Go.Proofs.Nod Go.Proofs.Can
open Go.Proofs.Mdl hiding e0
set_option linter.unusedVariables false
set_option linter.unusedSimpArgs false
theorem grows_in {l : List Ent} (hg : Mdl.Good l) : ∀ e ∈ l, ∃ y ∈ nodesT (treeM l), Stands e.v y := fun e he => by
  have h := grow_stands _ (pathsL l) (Wf.paths hg) (Nat.lt_succ_self _) ⟨Nib.bs (Nib.path e.k.data.toList), e.v⟩ (List.mem_map.2 ⟨e, he, rfl⟩)
  rcases h with h | ⟨x, h1, h2, h3⟩
  · exact ⟨topM l, (nodes_mem hg _).2 (.inl rfl), h⟩
  · exact ⟨x, (nodes_mem hg _).2 (.inr ⟨h1, h2⟩), h3⟩
theorem stands_at {v y : ByteArray} (h : Stands v y) : ∃ k, k + v.size ≤ y.size ∧ y.extract k (k + v.size) = v := by
  obtain ⟨s, t, h⟩ := h
  have hs : y.data.toList.length = s.length + v.data.toList.length + t.length := by rw [← h]; simp [Nat.add_assoc]
  rw [data_len, data_len] at hs
  refine ⟨s.length, by omega, ByteArray.ext (Array.toList_inj.1 ?_)⟩
  rw [ByteArray.data_extract, Array.toList_extract, List.extract_eq_take_drop, ← h, List.append_assoc, List.drop_left, Nat.add_sub_cancel_left, ← data_len, List.take_left]
theorem grows_few {l : List Ent} (hg : Mdl.Good l) : (nodesT (treeM l)).length ≤ 1 + 3 * l.length := by
  have h1 := (picked (tx (treeM l)) (texts (treeM l))).few
  rw [nodesT_eq]
  rcases hl : l with _ | ⟨a, r⟩
  · decide +kernel
  · have h2 := (grow_count _ (pathsL l) (Wf.paths hg) (Nat.lt_succ_self _) (by rw [paths_length, hl]; simp)).1
    rw [paths_length] at h2
    have h3 : (texts (treeM l)).length + 2 ≤ 3 * l.length := h2
    rw [← hl]
    omega
set_option maxRecDepth 100000 in
set_option maxHeartbeats 8000000 in
theorem grows_walk (w : World) (hL : LaidN w) (v0 : Value) (l : List Ent) (S0 : Es w v0 l) (hl : l.length ≤ 9223372036854775807) :
    Calls Tryz.prog 10 #[v0] w fun e w' => e = .returned (.bool true) ∧ Below w.heap.size w w' := by
  obtain ⟨A0, c0, rfl⟩ := S0.shape
  have WK := Lib.hid (cworks_any w hL)
  have FL := Lib.hid (fun W (hW : Below w.heap.size w W) => cfewE_any (S0.below hW))
  have HE := Lib.hid S0
  obtain ⟨z, hz⟩ : ∃ z, z = l.length := ⟨_, rfl⟩
  by_cases hg : checkN l = 0
  case neg =>
    have NE := Lib.hid (fun W (hW : Below w.heap.size w W) => nodes_far (S0.below hW) hl hg)
    rw [← hz] at FL NE ⊢
    clear S0 hL hz hl
    generalize checkN l = q at *
    go_enter Tryz.func10, Tryz.ntmps10
    go_wp2_with fail
    refine WK.out.mono ?_
    rintro e w1 ⟨rfl, hb⟩
    have B1 := Lib.hid hb
    clear hb WK
    go_wp2_with fail
    refine (FL.out _ B1.out).mono ?_
    rintro e w2 ⟨⟨bf, rfl, hbf, rfl⟩⟩
    clear hbf FL
    go_wp2_with fail
    refine (NE.out _ B1.out).mono ?_
    rintro e w3 ⟨rfl, hb⟩
    have B3 := Lib.hid (B1.out.trans (hb.mono B1.out.size))
    clear hb NE B1
    cases bf with
    | false =>
      go_wp2_with fail
      go_ret
      exact ⟨rfl, B3.out⟩
    | true =>
      go_wp2_with fail
      go_ret
      exact ⟨rfl, B3.out⟩
  case pos =>
    have gg := good_iff.1 hg
    have ND := Lib.hid (fun W (hW : Below w.heap.size w W) => nodes_ok (S0.below hW) gg (hL.on hW))
    have ST : Hid (∀ e ∈ l, ∃ (k : Nat) (y : ByteArray) (a : Nat), (nodesT (treeM l))[k]? = some y ∧ a + e.v.size ≤ y.size ∧ y.extract a (a + e.v.size) = e.v) := Lib.hid (fun e he => by
      obtain ⟨y, h1, h2⟩ := grows_in gg e he
      obtain ⟨k, hk⟩ := List.mem_iff_getElem?.1 h1
      obtain ⟨a, h3, h4⟩ := stands_at h2
      exact ⟨k, y, a, hk, h3, h4⟩)
    have CN := Lib.hid (grows_few gg)
    have SZ := Lib.hid (nodesT_size gg)
    have ES : Hid (∀ e ∈ l, e.v.size ≤ 80) := Lib.hid (fun e he => by
      have h := gg.ok e he
      unfold entOk valOk at h
      simp only [Bool.and_eq_true, decide_eq_true_eq] at h
      exact h.2.2)
    have Z40 : Hid (z ≤ 40) := Lib.hid (by have := gg.few; omega)
    have HZ := Lib.hid hz
    rw [← hz] at FL ND HE CN ⊢
    clear S0 hL hz hl hg gg
    generalize nodesT (treeM l) = ns at *
    obtain ⟨n, hn⟩ : ∃ n, n = ns.length := ⟨_, rfl⟩
    have HN := Lib.hid hn
    rw [← hn] at ND CN
    clear hn
    go_enter Tryz.func10, Tryz.ntmps10
    go_wp2_with fail
    refine WK.out.mono ?_
    rintro e w1 ⟨rfl, hb⟩
    have B1 := Lib.hid hb
    clear hb WK
    go_wp2_with fail
    refine (FL.out _ B1.out).mono ?_
    rintro e w2 ⟨⟨bf, rfl, hbf, rfl⟩⟩
    clear hbf FL
    go_wp2_with fail
    refine (ND.out _ B1.out).mono ?_
    rintro e w3 ⟨v3, rfl, hown, hb⟩
    obtain ⟨A3, c3, hv3⟩ := own_shape hown
    rw [HN.out] at hown
    have S3 := Lib.hid (Sl.of_own hown)
    subst hv3
    obtain ⟨A', c', hv', hs', -⟩ := S3.out
    simp only [Value.slice.injEq] at hv'
    obtain ⟨rfl, -, rfl⟩ := hv'
    have SS3 := Lib.hid hs'
    clear hs' S3
    have B3 := Lib.hid (B1.out.trans (hb.mono B1.out.size))
    have E3 := Lib.hid (HE.out.below B3.out)
    clear hb ND B1 HE hown
    cases bf with
    | false =>
      go_wp2_with fail
      go_ret
      exact ⟨rfl, B3.out⟩
    | true =>
      go_wp2_with fail
      go_loopw [7, 8, 9, 10] (fun vi _ _ _ wr => ∃ i : Nat, vi = .int .i64 (i : Int) ∧ i ≤ z ∧ Hid (Bl w3.heap.size w3 wr)) (fun vi _ _ _ _ => z - (intOf vi).toNat)
      case atStart => exact ⟨0, rfl, Nat.zero_le _, Lib.hid (Bl.start w3)⟩
      case round =>
        obtain ⟨i, rfl, hi, HB⟩ := hrel
        by_cases hlt : i < z
        · obtain ⟨x, hx⟩ : ∃ x, l[i]? = some x := ⟨_, List.getElem?_eq_getElem (by rw [← HZ.out]; exact hlt)⟩
          obtain ⟨K0, y0, a0, hy0, ha0, hs0⟩ := ST.out x (List.mem_of_getElem? hx)
          have HX := Lib.hid hx
          have HY := Lib.hid hy0
          have HA := Lib.hid ha0
          have HS := Lib.hid hs0
          have K0n : Hid (K0 < n) := Lib.hid (by rw [HN.out]; exact (List.getElem?_eq_some_iff.1 hy0).1)
          have VS := Lib.hid (ES.out x (List.mem_of_getElem? hx))
          have i1 : (i : Int) < (z : Int) := by omega
          have wk : IntKind.i64.wrap ((i : Int) + 1) = (i : Int) + 1 := IntWalk.i64_in _ (by have := Z40.out; omega)
          clear hx hy0 ha0 hs0
          go_wp2_with fail
          go_loopw [8, 9, 10] (fun vf vk _ wr' => ∃ (k : Nat) (fb : Bool), vk = .int .i64 (k : Int) ∧ vf = .bool fb ∧ k ≤ n ∧ Hid (fb = false → k ≤ K0) ∧ Hid (Bl w3.heap.size w3 wr')) (fun _ vk _ _ => n - (intOf vk).toNat)
          case atStart => exact ⟨0, false, rfl, rfl, Nat.zero_le _, Lib.hid (fun _ => Nat.zero_le _), HB⟩
          case round =>
            clear HB
            obtain ⟨k, fb, rfl, rfl, hk, HK, HB⟩ := hrel
            have nb : n ≤ 1000 := by have := CN.out; have := Z40.out; omega
            by_cases hkn : k < n
            · have k1 : (k : Int) < (n : Int) := by omega
              have wkk : IntKind.i64.wrap ((k : Int) + 1) = (k : Int) + 1 := IntWalk.i64_in _ (by omega)
              cases fb with
              | true =>
                clear HK
                go_wp2_with fail
                exact ⟨⟨i + 1, rfl, hlt, HB⟩, by simp [intOf]; omega⟩
              | false =>
                have HK0 := Lib.hid (HK.out rfl)
                clear HK
                go_wp2_with fail
                obtain ⟨X, hX⟩ : ∃ X, X = ns[k]'(by rw [← HN.out]; exact hkn) := ⟨_, rfl⟩
                have HX2 : Hid (ns[k]? = some X) := Lib.hid (by rw [hX]; exact List.getElem?_eq_getElem _)
                have XS : Hid (X.size ≤ 1000) := Lib.hid (SZ.out X (List.mem_of_getElem? HX2.out))
                clear hX
                go_loopw [8, 10] (fun vf va wr'' => ∃ (at_ : Nat) (fb : Bool), va = .int .i64 (at_ : Int) ∧ vf = .bool fb ∧ at_ ≤ X.size + 1 ∧ Hid (fb = false → k < K0 ∨ k = K0 ∧ at_ ≤ a0) ∧ Hid (Bl w3.heap.size w3 wr'')) (fun _ va _ => X.size + 1 - (intOf va).toNat)
                case atStart => exact ⟨0, false, rfl, rfl, Nat.zero_le _, Lib.hid (fun _ => by have := HK0.out; omega), HB⟩
                case round =>
                  clear HB
                  obtain ⟨p, fb, rfl, rfl, hp, HP, HB⟩ := hrel
                  obtain ⟨bx, ox, cx, hvx, hbx, dx0, dx1⟩ := (E3.out.below HB.out.1).at_ HX.out
                  simp only [Value.slice.injEq] at hvx
                  obtain ⟨rfl, -, -⟩ := hvx
                  obtain ⟨by_, oy, hvy, hby, dy0⟩ := (SS3.out.below HB.out.1).at_ k (by rw [← HN.out]; exact hkn)
                  subst hvy
                  rw [show ns[k]'(by rw [← HN.out]; exact hkn) = X from Option.some.inj ((List.getElem?_eq_getElem _).symm.trans HX2.out)] at dy0
                  have vs80 := VS.out
                  have xs1k := XS.out
                  obtain ⟨ek, ev⟩ := x
                  simp only at dx0 dx1 vs80
                  have wadd : IntKind.i64.wrap ((p : Int) + (ev.size : Int)) = (p : Int) + (ev.size : Int) := IntWalk.i64_in _ (by omega)
                  have wp : IntKind.i64.wrap ((p : Int) + 1) = (p : Int) + 1 := IntWalk.i64_in _ (by omega)
                  clear vs80 xs1k dx0
                  by_cases hc : (p : Int) + (ev.size : Int) ≤ (X.size : Int)
                  case neg =>
                    have hd : decide ((p : Int) + (ev.size : Int) ≤ (X.size : Int)) = false := decide_eq_false hc
                    have OUT : Hid (fb = false → k + 1 ≤ K0) := Lib.hid (fun h => by
                      rcases HP.out h with h1 | ⟨h1, h2⟩
                      · omega
                      · exfalso
                        have e : y0 = X := by have := HY.out; rw [← h1] at this; exact Option.some.inj (this.symm.trans HX2.out)
                        have := HA.out
                        rw [e] at this
                        simp only at this
                        omega)
                    clear HP hc
                    cases fb with
                    | true =>
                      go_wp2_with fail
                      go_quiet (fail)
                      go_wp2_with fail
                      exact ⟨⟨k + 1, true, rfl, rfl, hkn, OUT, Lib.hid (HB.out.drewN _)⟩, by simp [intOf]; omega⟩
                    | false =>
                      go_wp2_with fail
                      go_quiet (fail)
                      go_wp2_with fail
                      exact ⟨⟨k + 1, false, rfl, rfl, hkn, Lib.hid (fun _ => OUT.out trivial), Lib.hid (HB.out.drewN _)⟩, by simp [intOf]; omega⟩
                  case pos =>
                    have hd : decide ((p : Int) + (ev.size : Int) ≤ (X.size : Int)) = true := decide_eq_true hc
                    cases fb with
                    | true =>
                      clear HP
                      go_wp2_with fail
                      go_quiet (fail)
                      go_wp2_with fail
                      exact ⟨⟨k + 1, true, rfl, rfl, hkn, Lib.hid (fun h => by cases h), Lib.hid (HB.out.drewN _)⟩, by simp [intOf]; omega⟩
                    | false =>
                      have SLM := slice_mid X p ev.size (by omega)
                      obtain ⟨Y, hY⟩ : ∃ Y, Y = X.extract p (p + ev.size) := ⟨_, rfl⟩
                      rw [← hY] at SLM
                      by_cases hE : Y = ev
                      case pos =>
                        have be : (Y.toList == ev.toList) = true := by rw [bytes_eqF]; exact decide_eq_true hE
                        have pX : p + 1 ≤ X.size + 1 := by omega
                        clear HP hY hE
                        go_wp2_with fail
                        go_quiet (fail)
                        go_wp2_with fail
                        go_quiet (fail)
                        go_wp2_with fail
                        exact ⟨⟨p + 1, true, rfl, rfl, pX, Lib.hid (fun h => by cases h), Lib.hid (HB.out.drewN _)⟩, by simp [intOf]; omega⟩
                      case neg =>
                        have be : (Y.toList == ev.toList) = false := by rw [bytes_eqF]; exact decide_eq_false hE
                        have pX : p + 1 ≤ X.size + 1 := by omega
                        have NXT : Hid (k < K0 ∨ k = K0 ∧ p + 1 ≤ a0) := Lib.hid (by
                          rcases HP.out rfl with h | ⟨h1, h2⟩
                          · exact .inl h
                          · refine .inr ⟨h1, ?_⟩
                            have e : y0 = X := by have := HY.out; rw [← h1] at this; exact Option.some.inj (this.symm.trans HX2.out)
                            have hne : ¬ p = a0 := fun e2 => hE (by rw [hY, e2, ← e]; exact HS.out)
                            omega)
                        clear HP hY hE
                        go_wp2_with fail
                        go_quiet (fail)
                        go_wp2_with fail
                        go_quiet (fail)
                        go_wp2_with fail
                        exact ⟨⟨p + 1, false, rfl, rfl, pX, Lib.hid (fun _ => NXT.out), Lib.hid (HB.out.drewN _)⟩, by simp [intOf]; omega⟩
            · have k1 : ¬ (k : Int) < (n : Int) := by omega
              cases fb with
              | true =>
                clear HK
                go_wp2_with fail
                exact ⟨⟨i + 1, rfl, hlt, HB⟩, by simp [intOf]; omega⟩
              | false =>
                exfalso
                have := HK.out rfl
                have := K0n.out
                omega
        · have i1 : ¬ (i : Int) < (z : Int) := by omega
          have w3z : IntKind.i64.wrap (3 * (z : Int)) = 3 * (z : Int) := IntWalk.i64_in _ (by have := Z40.out; omega)
          have w1z : IntKind.i64.wrap (1 + 3 * (z : Int)) = 1 + 3 * (z : Int) := IntWalk.i64_in _ (by have := Z40.out; omega)
          have fin : (n : Int) ≤ 1 + 3 * (z : Int) := by have := CN.out; omega
          go_wp2_with fail
          go_ret
          exact ⟨rfl, B3.out.trans (HB.out.1.mono B3.out.size)⟩
end Go.Proofs.YtfeonjiiijdibaaGreatDoor
