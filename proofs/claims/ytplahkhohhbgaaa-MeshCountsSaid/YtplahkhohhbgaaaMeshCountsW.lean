/-
  The walk of the law MeshCounts.
-/
import Derived.Test.YtplahkhohhbgaaaMeshDoublesW
namespace Go.Proofs.Ytplahkhohhbgaaa
open Go.RowKit Go.Proofs.Msh
set_option linter.unusedVariables false
set_option linter.unusedSimpArgs false
theorem cnt_erase (xs : List ByteArray) (s : ByteArray) (k : Nat) (x : ByteArray) (hx : xs[k]? = some x) : cntOf (xs.eraseIdx k) s + (if x = s then 1 else 0) = cntOf xs s := by
  obtain ⟨hk, rfl⟩ := List.getElem?_eq_some_iff.1 hx
  have h1 : xs = xs.take k ++ (xs[k] :: xs.drop (k + 1)) := by rw [← List.drop_eq_getElem_cons hk, List.take_append_drop]
  rw [List.eraseIdx_eq_take_drop_succ]
  conv => rhs; rw [h1]
  rw [show xs.take k ++ (xs[k] :: xs.drop (k + 1)) = xs.take k ++ ([xs[k]] ++ xs.drop (k + 1)) from rfl, cntOf_append, cntOf_append, cntOf_append, cntOf_one]
  omega
theorem cnt_lay (xs : List ByteArray) (s : ByteArray) (k : Nat) (x : ByteArray) : cntOf (lay xs k x) s = cntOf xs s + (if x = s then 1 else 0) := by
  unfold lay
  rw [show xs.take k ++ (x :: xs.drop k) = xs.take k ++ ([x] ++ xs.drop k) from rfl, cntOf_append, cntOf_append, cntOf_one]
  have : cntOf xs s = cntOf (xs.take k) s + cntOf (xs.drop k) s := by rw [← cntOf_append, List.take_append_drop]
  omega
theorem cnt_move (xs : List ByteArray) (s : ByteArray) (n to : Int) : cntOf (moveF xs n to).1 s = cntOf xs s := by
  unfold moveF
  rcases h1 : getAt xs n with _ | x
  · rfl
  · rcases h2 : getAt xs to with _ | y
    · rfl
    · obtain ⟨k, rfl, hk, hx, hkn⟩ := getAt_some h1
      show cntOf (lay (xs.eraseIdx (k : Int).toNat) to.toNat x) s = _
      rw [hkn, cnt_lay, cnt_erase _ _ _ _ hx]
set_option maxRecDepth 100000 in
set_option maxHeartbeats 8000000 in
theorem counts_walk (w : World) (a0 : Int) (A1 : Option Addr) (c1 : Nat) (l1 : List Deed) (S1 : Sa w A1 l1) (a2 : ByteArray) :
    Calls Try.prog 10 #[.int .i64 a0, .slice A1 l1.length c1, .string a2] w fun e w' => e = .returned (.bool true) ∧ Below w.heap.size w w' := by
  obtain ⟨R, hR⟩ : ∃ R : Nat, roomOf a0 = R := ⟨(roomOf a0).toNat, by have := roomOf_bd a0; omega⟩
  have hRb : 1 ≤ R ∧ R ≤ 64 := by have := roomOf_bd a0; omega
  obtain ⟨M1, hm1, hm2⟩ := mx_room2 a0 R hR
  have HR := Lib.hid hR
  have HS := Lib.hid S1
  clear hR S1
  go_enter Try.func10, Try.ntmps10
  go_wp2_with fail
  refine (works_any _).mono ?_
  rintro e w1 ⟨rfl, hb1⟩
  have HB1 := Lib.hid hb1
  clear hb1
  go_wp2_with fail
  refine (new_any a0 w w1 ⟨HB1.out, HB1.out.size⟩).mono ?_
  rintro e w2 ⟨rfl, hM, hb2⟩
  rw [HR.out] at hM
  have H2 := Lib.hid hM
  clear hM hb2
  go_wp2_with fail
  refine (few_any A1 c1 l1 w2 (HS.out.below (B := 0) H2.out.2.2.1.1)).mono ?_
  rintro e w3 ⟨rfl, rfl⟩
  rcases hf : fewF l1 with _ | _
  · go_wp2_with fail
    go_ret
    exact ⟨rfl, H2.out.2.2.1.1⟩
  · obtain ⟨hl100, _⟩ := fewF_true hf
    clear hf
    by_cases hs2 : a2.size ≤ 100
    · have i1 : ¬ (100 : Int) < (a2.size : Int) := by omega
      go_wp2_with fail
      go_loopw [10, 11] (fun vn vi wr => ∃ (k : Nat) (v : Value) (xs : List ByteArray) (m : Nat), vi = .int .i64 (k : Int) ∧ k ≤ l1.length ∧ vn = .int .i64 (m : Int) ∧ m ≤ 64 ∧ Hid (m = cntOf xs a2) ∧ Hid (Ms w w1.heap.size R v xs wr)) (fun _ vi _ => l1.length - (intOf vi).toNat)
      case atStart => exact ⟨0, _, [], 0, rfl, Nat.zero_le _, rfl, by omega, Lib.hid rfl, H2⟩
      case round =>
        obtain ⟨k, v, xs, m, rfl, hk, rfl, hm64, HMC, HM⟩ := hrel
        by_cases hlt : k < l1.length
        · obtain ⟨a, ha⟩ : ∃ a, l1[k]? = some a := ⟨_, List.getElem?_eq_getElem hlt⟩
          obtain ⟨b, o, rfl, _, d0, d1, d2, d3⟩ := (HS.out.below (B := 0) HM.out.2.2.1.1).at_ k a ha
          obtain ⟨ak, aks, an, ato⟩ := a
          simp only at d0 d1 d2 d3
          have j1 : (k : Int) < (l1.length : Int) := by omega
          have wk : IntKind.i64.wrap ((k : Int) + 1) = (k : Int) + 1 := IntWalk.i64_in _ (by omega)
          have hx64 := HM.out.len
          clear ha
          have hbx : Below wr.heap.size wr (wr.alloc (.cells #[.int .i64 ak, .string aks, .int .i64 an, .int .i64 ato] 63)) := (Below.refl _ _).alloc (Nat.le_refl _) _
          have HBX := Lib.hid hbx
          clear hbx
          go_wp2_with fail
          have HM3 := Lib.hid (HM.out.below HBX.out)
          have hno : ¬ Own w1.heap.size v wr.heap.size := fun h => by have := HM.out.own_lt _ h; omega
          have HNO := Lib.hid hno
          clear hno
          refine (all_any HM3.out).mono ?_
          rintro e w4 ⟨c4, rfl, hSl, hb⟩
          have HB4 := Lib.hid hb
          have H4 := Lib.hid (HM3.out.below hb)
          have HSl := Lib.hid hSl
          have hbx4 : Blk w4 wr.heap.size 63 #[.int .i64 ak, .string aks, .int .i64 an, .int .i64 ato] := (Blk.new wr _ _).below hb
          have HX4 := Lib.hid hbx4
          have e0 : w4.cell? ⟨wr.heap.size, 0, none⟩ = some (.int .i64 ak) := by rw [hbx4.cell]; rfl
          have e1 : w4.cell? ⟨wr.heap.size, 1, none⟩ = some (.string aks) := by rw [hbx4.cell]; rfl
          have e2 : w4.cell? ⟨wr.heap.size, 2, none⟩ = some (.int .i64 an) := by rw [hbx4.cell]; rfl
          have e3 : w4.cell? ⟨wr.heap.size, 3, none⟩ = some (.int .i64 ato) := by rw [hbx4.cell]; rfl
          clear hbx4 hb hSl
          generalize (wr.alloc (.cells #[.int .i64 ak, .string aks, .int .i64 an, .int .i64 ato] 63)).heap.size = G at *
          have g5 : ¬ (m : Int) < 0 := by omega
          have wp1 : IntKind.i64.wrap ((m : Int) + 1) = (m : Int) + 1 := IntWalk.i64_in _ (by omega)
          have wm1 : IntKind.i64.wrap ((m : Int) - 1) = (m : Int) - 1 := IntWalk.i64_in _ (by omega)
          have g6 : ¬ (m : Int) + 1 < 0 := by omega
          have none_of : (an < 0 ∨ (xs.length : Int) ≤ an) → getAt xs an = none := by
            intro h
            unfold getAt
            by_cases h0 : an < 0
            · rw [if_pos h0]
            · rw [if_neg h0]; exact List.getElem?_eq_none (by have := h.resolve_left h0; omega)
          have NONE := Lib.hid none_of
          clear none_of
          have hcas : (an < 0) ∨ (¬ an < 0 ∧ (xs.length : Int) ≤ an) ∨ (∃ (j : Nat) (x : ByteArray), an = (j : Int) ∧ (j : Int) < (xs.length : Int) ∧ xs[j]? = some x) := by
            by_cases h0 : an < 0
            · exact .inl h0
            · by_cases h1 : (xs.length : Int) ≤ an
              · exact .inr (.inl ⟨h0, h1⟩)
              · exact .inr (.inr ⟨an.toNat, xs[an.toNat]'(by omega), by omega, by omega, List.getElem?_eq_getElem _⟩)
          rcases hcas with h | ⟨h1, h2⟩ | ⟨j, x, rfl, hj, hx⟩
          · go_wp2_with fail
            by_cases k0 : ak = 0
            · subst k0
              by_cases hfull : (xs.length : Int) = (R : Int)
              · obtain ⟨ys, hys⟩ : ∃ ys, ys = xs := ⟨_, rfl⟩
                have hact : actF R xs ⟨0, aks, an, ato⟩ = (ys, ⟨#[]⟩, false) := by
                  rw [hys]
                  simp [actF, sendF, hfull]
                have HACT := Lib.hid hact
                have hci : ((cntOf ys a2 : Nat) : Int) = (m : Int) := by
                  rw [hys]; have := HMC.out; omega
                have HCI := Lib.hid hci
                clear hact hci hys hfull
                as_aux_lemma =>
                  refine (do_any ⟨0, aks, an, ato⟩ H4.out).mono ?_
                  rintro e w5 ⟨rfl, v5, hM5, F5, _⟩
                  rw [HACT.out] at hM5
                  simp only [HACT.out]
                  have H5 := Lib.hid hM5
                  have hbx5 := HX4.out.far F5 HNO.out
                  have f0 : w5.cell? ⟨wr.heap.size, 0, none⟩ = some (.int .i64 0) := by rw [hbx5.cell]; rfl
                  have f1 : w5.cell? ⟨wr.heap.size, 1, none⟩ = some (.string aks) := by rw [hbx5.cell]; rfl
                  have hy64 : ys.length ≤ 64 := hM5.len
                  have hyR : ¬ R < ys.length := by have h : (ys.length : Int) ≤ R := hM5.2.2.2.1; omega
                  clear hbx5 hM5 F5 e0 e1 e2 e3
                  go_wp2_with fail
                  refine (count_any a2 H5.out).mono ?_
                  rintro e w6 ⟨rfl, q, rfl⟩
                  rw [HCI.out]
                  clear f0 f1
                  go_wp2_with fail
                  refine (all_any (H5.out.drewN q)).mono ?_
                  rintro e w7 ⟨c7, rfl, _, hb7⟩
                  have H7 := Lib.hid ((H5.out.drewN q).below hb7)
                  clear hb7
                  go_wp2_with fail
                  refine ⟨⟨k + 1, v5, ys, m, by go_num, by omega, by go_num, by have := HCI.out; have := cntOf_le ys a2; omega, Lib.hid (by have := HCI.out; omega), H7⟩, ?_⟩
                  simp [intOf]; omega
              · by_cases hS : aks = a2
                · have hbs : (aks.toList == a2.toList) = true := by rw [bytes_eq]; simp [hS]
                  obtain ⟨ys, hys⟩ : ∃ ys, ys = xs ++ [aks] := ⟨_, rfl⟩
                  have hact : actF R xs ⟨0, aks, an, ato⟩ = (ys, ⟨#[]⟩, true) := by
                    rw [hys]
                    simp [actF, sendF, hfull]
                  have HACT := Lib.hid hact
                  have hci : ((cntOf ys a2 : Nat) : Int) = (m : Int) + 1 := by
                    rw [hys, cntOf_append, cntOf_one, if_pos hS]; have := HMC.out; omega
                  have HCI := Lib.hid hci
                  clear hact hci hys hfull hS
                  as_aux_lemma =>
                    refine (do_any ⟨0, aks, an, ato⟩ H4.out).mono ?_
                    rintro e w5 ⟨rfl, v5, hM5, F5, _⟩
                    rw [HACT.out] at hM5
                    simp only [HACT.out]
                    have H5 := Lib.hid hM5
                    have hbx5 := HX4.out.far F5 HNO.out
                    have f0 : w5.cell? ⟨wr.heap.size, 0, none⟩ = some (.int .i64 0) := by rw [hbx5.cell]; rfl
                    have f1 : w5.cell? ⟨wr.heap.size, 1, none⟩ = some (.string aks) := by rw [hbx5.cell]; rfl
                    have hy64 : ys.length ≤ 64 := hM5.len
                    have hyR : ¬ R < ys.length := by have h : (ys.length : Int) ≤ R := hM5.2.2.2.1; omega
                    clear hbx5 hM5 F5 e0 e1 e2 e3
                    go_wp2_with fail
                    refine (count_any a2 H5.out).mono ?_
                    rintro e w6 ⟨rfl, q, rfl⟩
                    rw [HCI.out]
                    clear f0 f1
                    go_wp2_with fail
                    refine (all_any (H5.out.drewN q)).mono ?_
                    rintro e w7 ⟨c7, rfl, _, hb7⟩
                    have H7 := Lib.hid ((H5.out.drewN q).below hb7)
                    clear hb7
                    go_wp2_with fail
                    refine ⟨⟨k + 1, v5, ys, m + 1, by go_num, by omega, by go_num, by have := HCI.out; have := cntOf_le ys a2; omega, Lib.hid (by have := HCI.out; omega), H7⟩, ?_⟩
                    simp [intOf]; omega
                · have hbs : (aks.toList == a2.toList) = false := by rw [bytes_eq]; simp [hS]
                  obtain ⟨ys, hys⟩ : ∃ ys, ys = xs ++ [aks] := ⟨_, rfl⟩
                  have hact : actF R xs ⟨0, aks, an, ato⟩ = (ys, ⟨#[]⟩, true) := by
                    rw [hys]
                    simp [actF, sendF, hfull]
                  have HACT := Lib.hid hact
                  have hci : ((cntOf ys a2 : Nat) : Int) = (m : Int) := by
                    rw [hys, cntOf_append, cntOf_one, if_neg hS]; have := HMC.out; omega
                  have HCI := Lib.hid hci
                  clear hact hci hys hfull hS
                  as_aux_lemma =>
                    refine (do_any ⟨0, aks, an, ato⟩ H4.out).mono ?_
                    rintro e w5 ⟨rfl, v5, hM5, F5, _⟩
                    rw [HACT.out] at hM5
                    simp only [HACT.out]
                    have H5 := Lib.hid hM5
                    have hbx5 := HX4.out.far F5 HNO.out
                    have f0 : w5.cell? ⟨wr.heap.size, 0, none⟩ = some (.int .i64 0) := by rw [hbx5.cell]; rfl
                    have f1 : w5.cell? ⟨wr.heap.size, 1, none⟩ = some (.string aks) := by rw [hbx5.cell]; rfl
                    have hy64 : ys.length ≤ 64 := hM5.len
                    have hyR : ¬ R < ys.length := by have h : (ys.length : Int) ≤ R := hM5.2.2.2.1; omega
                    clear hbx5 hM5 F5 e0 e1 e2 e3
                    go_wp2_with fail
                    refine (count_any a2 H5.out).mono ?_
                    rintro e w6 ⟨rfl, q, rfl⟩
                    rw [HCI.out]
                    clear f0 f1
                    go_wp2_with fail
                    refine (all_any (H5.out.drewN q)).mono ?_
                    rintro e w7 ⟨c7, rfl, _, hb7⟩
                    have H7 := Lib.hid ((H5.out.drewN q).below hb7)
                    clear hb7
                    go_wp2_with fail
                    refine ⟨⟨k + 1, v5, ys, m, by go_num, by omega, by go_num, by have := HCI.out; have := cntOf_le ys a2; omega, Lib.hid (by have := HCI.out; omega), H7⟩, ?_⟩
                    simp [intOf]; omega
            · by_cases k1 : ak = 1
              · subst k1
                have hg := NONE.out (by omega)
                obtain ⟨ys, hys⟩ : ∃ ys, ys = xs := ⟨_, rfl⟩
                have hact : actF R xs ⟨1, aks, an, ato⟩ = (ys, ⟨#[]⟩, false) := by
                  rw [hys]
                  simp [actF, takeF, hg]
                have HACT := Lib.hid hact
                have hci : ((cntOf ys a2 : Nat) : Int) = (m : Int) := by
                  rw [hys]; have := HMC.out; omega
                have HCI := Lib.hid hci
                clear hact hci hys hg k0
                as_aux_lemma =>
                  refine (do_any ⟨1, aks, an, ato⟩ H4.out).mono ?_
                  rintro e w5 ⟨rfl, v5, hM5, F5, _⟩
                  rw [HACT.out] at hM5
                  simp only [HACT.out]
                  have H5 := Lib.hid hM5
                  have hbx5 := HX4.out.far F5 HNO.out
                  have f0 : w5.cell? ⟨wr.heap.size, 0, none⟩ = some (.int .i64 1) := by rw [hbx5.cell]; rfl
                  have f1 : w5.cell? ⟨wr.heap.size, 1, none⟩ = some (.string aks) := by rw [hbx5.cell]; rfl
                  have hy64 : ys.length ≤ 64 := hM5.len
                  have hyR : ¬ R < ys.length := by have h : (ys.length : Int) ≤ R := hM5.2.2.2.1; omega
                  clear hbx5 hM5 F5 e0 e1 e2 e3
                  go_wp2_with fail
                  refine (count_any a2 H5.out).mono ?_
                  rintro e w6 ⟨rfl, q, rfl⟩
                  rw [HCI.out]
                  clear f0 f1
                  go_wp2_with fail
                  refine (all_any (H5.out.drewN q)).mono ?_
                  rintro e w7 ⟨c7, rfl, _, hb7⟩
                  have H7 := Lib.hid ((H5.out.drewN q).below hb7)
                  clear hb7
                  go_wp2_with fail
                  refine ⟨⟨k + 1, v5, ys, m, by go_num, by omega, by go_num, by have := HCI.out; have := cntOf_le ys a2; omega, Lib.hid (by have := HCI.out; omega), H7⟩, ?_⟩
                  simp [intOf]; omega
              · by_cases k2 : ak = 2
                · subst k2
                  have hg := NONE.out (by omega)
                  obtain ⟨ys, hys⟩ : ∃ ys, ys = xs := ⟨_, rfl⟩
                  have hact : actF R xs ⟨2, aks, an, ato⟩ = (ys, ⟨#[]⟩, false) := by
                    rw [hys]
                    simp [actF, takeF, hg]
                  have HACT := Lib.hid hact
                  have hci : ((cntOf ys a2 : Nat) : Int) = (m : Int) := by
                    rw [hys]; have := HMC.out; omega
                  have HCI := Lib.hid hci
                  clear hact hci hys hg k0 k1
                  as_aux_lemma =>
                    refine (do_any ⟨2, aks, an, ato⟩ H4.out).mono ?_
                    rintro e w5 ⟨rfl, v5, hM5, F5, _⟩
                    rw [HACT.out] at hM5
                    simp only [HACT.out]
                    have H5 := Lib.hid hM5
                    have hbx5 := HX4.out.far F5 HNO.out
                    have f0 : w5.cell? ⟨wr.heap.size, 0, none⟩ = some (.int .i64 2) := by rw [hbx5.cell]; rfl
                    have f1 : w5.cell? ⟨wr.heap.size, 1, none⟩ = some (.string aks) := by rw [hbx5.cell]; rfl
                    have hy64 : ys.length ≤ 64 := hM5.len
                    have hyR : ¬ R < ys.length := by have h : (ys.length : Int) ≤ R := hM5.2.2.2.1; omega
                    clear hbx5 hM5 F5 e0 e1 e2 e3
                    go_wp2_with fail
                    refine (count_any a2 H5.out).mono ?_
                    rintro e w6 ⟨rfl, q, rfl⟩
                    rw [HCI.out]
                    clear f0 f1
                    go_wp2_with fail
                    refine (all_any (H5.out.drewN q)).mono ?_
                    rintro e w7 ⟨c7, rfl, _, hb7⟩
                    have H7 := Lib.hid ((H5.out.drewN q).below hb7)
                    clear hb7
                    go_wp2_with fail
                    refine ⟨⟨k + 1, v5, ys, m, by go_num, by omega, by go_num, by have := HCI.out; have := cntOf_le ys a2; omega, Lib.hid (by have := HCI.out; omega), H7⟩, ?_⟩
                    simp [intOf]; omega
                · by_cases k3 : ak = 3
                  · subst k3
                    have hg := NONE.out (by omega)
                    obtain ⟨ys, hys⟩ : ∃ ys, ys = xs := ⟨_, rfl⟩
                    have hact : actF R xs ⟨3, aks, an, ato⟩ = (ys, ⟨#[]⟩, false) := by
                      rw [hys]
                      simp [actF, doubleF, hg]
                    have HACT := Lib.hid hact
                    have hci : ((cntOf ys a2 : Nat) : Int) = (m : Int) := by
                      rw [hys]; have := HMC.out; omega
                    have HCI := Lib.hid hci
                    clear hact hci hys hg k0 k1 k2
                    as_aux_lemma =>
                      refine (do_any ⟨3, aks, an, ato⟩ H4.out).mono ?_
                      rintro e w5 ⟨rfl, v5, hM5, F5, _⟩
                      rw [HACT.out] at hM5
                      simp only [HACT.out]
                      have H5 := Lib.hid hM5
                      have hbx5 := HX4.out.far F5 HNO.out
                      have f0 : w5.cell? ⟨wr.heap.size, 0, none⟩ = some (.int .i64 3) := by rw [hbx5.cell]; rfl
                      have f1 : w5.cell? ⟨wr.heap.size, 1, none⟩ = some (.string aks) := by rw [hbx5.cell]; rfl
                      have hy64 : ys.length ≤ 64 := hM5.len
                      have hyR : ¬ R < ys.length := by have h : (ys.length : Int) ≤ R := hM5.2.2.2.1; omega
                      clear hbx5 hM5 F5 e0 e1 e2 e3
                      go_wp2_with fail
                      refine (count_any a2 H5.out).mono ?_
                      rintro e w6 ⟨rfl, q, rfl⟩
                      rw [HCI.out]
                      clear f0 f1
                      go_wp2_with fail
                      refine (all_any (H5.out.drewN q)).mono ?_
                      rintro e w7 ⟨c7, rfl, _, hb7⟩
                      have H7 := Lib.hid ((H5.out.drewN q).below hb7)
                      clear hb7
                      go_wp2_with fail
                      refine ⟨⟨k + 1, v5, ys, m, by go_num, by omega, by go_num, by have := HCI.out; have := cntOf_le ys a2; omega, Lib.hid (by have := HCI.out; omega), H7⟩, ?_⟩
                      simp [intOf]; omega
                  · rcases hmv : (moveF xs an ato).2 with _ | _
                    · obtain ⟨ys, hys⟩ : ∃ ys, ys = (moveF xs an ato).1 := ⟨_, rfl⟩
                      have hact : actF R xs ⟨ak, aks, an, ato⟩ = (ys, ⟨#[]⟩, false) := by
                        rw [hys]
                        simp [actF, k0, k1, k2, k3, hmv]
                      have HACT := Lib.hid hact
                      have hci : ((cntOf ys a2 : Nat) : Int) = (m : Int) := by
                        rw [hys, cnt_move]; have := HMC.out; omega
                      have HCI := Lib.hid hci
                      clear hact hci hys hmv
                      as_aux_lemma =>
                        refine (do_any ⟨ak, aks, an, ato⟩ H4.out).mono ?_
                        rintro e w5 ⟨rfl, v5, hM5, F5, _⟩
                        rw [HACT.out] at hM5
                        simp only [HACT.out]
                        have H5 := Lib.hid hM5
                        have hbx5 := HX4.out.far F5 HNO.out
                        have f0 : w5.cell? ⟨wr.heap.size, 0, none⟩ = some (.int .i64 ak) := by rw [hbx5.cell]; rfl
                        have f1 : w5.cell? ⟨wr.heap.size, 1, none⟩ = some (.string aks) := by rw [hbx5.cell]; rfl
                        have hy64 : ys.length ≤ 64 := hM5.len
                        have hyR : ¬ R < ys.length := by have h : (ys.length : Int) ≤ R := hM5.2.2.2.1; omega
                        clear hbx5 hM5 F5 e0 e1 e2 e3
                        go_wp2_with fail
                        refine (count_any a2 H5.out).mono ?_
                        rintro e w6 ⟨rfl, q, rfl⟩
                        rw [HCI.out]
                        clear f0 f1
                        go_wp2_with fail
                        refine (all_any (H5.out.drewN q)).mono ?_
                        rintro e w7 ⟨c7, rfl, _, hb7⟩
                        have H7 := Lib.hid ((H5.out.drewN q).below hb7)
                        clear hb7
                        go_wp2_with fail
                        refine ⟨⟨k + 1, v5, ys, m, by go_num, by omega, by go_num, by have := HCI.out; have := cntOf_le ys a2; omega, Lib.hid (by have := HCI.out; omega), H7⟩, ?_⟩
                        simp [intOf]; omega
                    · obtain ⟨ys, hys⟩ : ∃ ys, ys = (moveF xs an ato).1 := ⟨_, rfl⟩
                      have hact : actF R xs ⟨ak, aks, an, ato⟩ = (ys, ⟨#[]⟩, true) := by
                        rw [hys]
                        simp [actF, k0, k1, k2, k3, hmv]
                      have HACT := Lib.hid hact
                      have hci : ((cntOf ys a2 : Nat) : Int) = (m : Int) := by
                        rw [hys, cnt_move]; have := HMC.out; omega
                      have HCI := Lib.hid hci
                      clear hact hci hys hmv
                      as_aux_lemma =>
                        refine (do_any ⟨ak, aks, an, ato⟩ H4.out).mono ?_
                        rintro e w5 ⟨rfl, v5, hM5, F5, _⟩
                        rw [HACT.out] at hM5
                        simp only [HACT.out]
                        have H5 := Lib.hid hM5
                        have hbx5 := HX4.out.far F5 HNO.out
                        have f0 : w5.cell? ⟨wr.heap.size, 0, none⟩ = some (.int .i64 ak) := by rw [hbx5.cell]; rfl
                        have f1 : w5.cell? ⟨wr.heap.size, 1, none⟩ = some (.string aks) := by rw [hbx5.cell]; rfl
                        have hy64 : ys.length ≤ 64 := hM5.len
                        have hyR : ¬ R < ys.length := by have h : (ys.length : Int) ≤ R := hM5.2.2.2.1; omega
                        clear hbx5 hM5 F5 e0 e1 e2 e3
                        go_wp2_with fail
                        refine (count_any a2 H5.out).mono ?_
                        rintro e w6 ⟨rfl, q, rfl⟩
                        rw [HCI.out]
                        clear f0 f1
                        go_wp2_with fail
                        refine (all_any (H5.out.drewN q)).mono ?_
                        rintro e w7 ⟨c7, rfl, _, hb7⟩
                        have H7 := Lib.hid ((H5.out.drewN q).below hb7)
                        clear hb7
                        go_wp2_with fail
                        refine ⟨⟨k + 1, v5, ys, m, by go_num, by omega, by go_num, by have := HCI.out; have := cntOf_le ys a2; omega, Lib.hid (by have := HCI.out; omega), H7⟩, ?_⟩
                        simp [intOf]; omega
          · go_wp2_with fail
            by_cases k0 : ak = 0
            · subst k0
              by_cases hfull : (xs.length : Int) = (R : Int)
              · obtain ⟨ys, hys⟩ : ∃ ys, ys = xs := ⟨_, rfl⟩
                have hact : actF R xs ⟨0, aks, an, ato⟩ = (ys, ⟨#[]⟩, false) := by
                  rw [hys]
                  simp [actF, sendF, hfull]
                have HACT := Lib.hid hact
                have hci : ((cntOf ys a2 : Nat) : Int) = (m : Int) := by
                  rw [hys]; have := HMC.out; omega
                have HCI := Lib.hid hci
                clear hact hci hys hfull
                as_aux_lemma =>
                  refine (do_any ⟨0, aks, an, ato⟩ H4.out).mono ?_
                  rintro e w5 ⟨rfl, v5, hM5, F5, _⟩
                  rw [HACT.out] at hM5
                  simp only [HACT.out]
                  have H5 := Lib.hid hM5
                  have hbx5 := HX4.out.far F5 HNO.out
                  have f0 : w5.cell? ⟨wr.heap.size, 0, none⟩ = some (.int .i64 0) := by rw [hbx5.cell]; rfl
                  have f1 : w5.cell? ⟨wr.heap.size, 1, none⟩ = some (.string aks) := by rw [hbx5.cell]; rfl
                  have hy64 : ys.length ≤ 64 := hM5.len
                  have hyR : ¬ R < ys.length := by have h : (ys.length : Int) ≤ R := hM5.2.2.2.1; omega
                  clear hbx5 hM5 F5 e0 e1 e2 e3
                  go_wp2_with fail
                  refine (count_any a2 H5.out).mono ?_
                  rintro e w6 ⟨rfl, q, rfl⟩
                  rw [HCI.out]
                  clear f0 f1
                  go_wp2_with fail
                  refine (all_any (H5.out.drewN q)).mono ?_
                  rintro e w7 ⟨c7, rfl, _, hb7⟩
                  have H7 := Lib.hid ((H5.out.drewN q).below hb7)
                  clear hb7
                  go_wp2_with fail
                  refine ⟨⟨k + 1, v5, ys, m, by go_num, by omega, by go_num, by have := HCI.out; have := cntOf_le ys a2; omega, Lib.hid (by have := HCI.out; omega), H7⟩, ?_⟩
                  simp [intOf]; omega
              · by_cases hS : aks = a2
                · have hbs : (aks.toList == a2.toList) = true := by rw [bytes_eq]; simp [hS]
                  obtain ⟨ys, hys⟩ : ∃ ys, ys = xs ++ [aks] := ⟨_, rfl⟩
                  have hact : actF R xs ⟨0, aks, an, ato⟩ = (ys, ⟨#[]⟩, true) := by
                    rw [hys]
                    simp [actF, sendF, hfull]
                  have HACT := Lib.hid hact
                  have hci : ((cntOf ys a2 : Nat) : Int) = (m : Int) + 1 := by
                    rw [hys, cntOf_append, cntOf_one, if_pos hS]; have := HMC.out; omega
                  have HCI := Lib.hid hci
                  clear hact hci hys hfull hS
                  as_aux_lemma =>
                    refine (do_any ⟨0, aks, an, ato⟩ H4.out).mono ?_
                    rintro e w5 ⟨rfl, v5, hM5, F5, _⟩
                    rw [HACT.out] at hM5
                    simp only [HACT.out]
                    have H5 := Lib.hid hM5
                    have hbx5 := HX4.out.far F5 HNO.out
                    have f0 : w5.cell? ⟨wr.heap.size, 0, none⟩ = some (.int .i64 0) := by rw [hbx5.cell]; rfl
                    have f1 : w5.cell? ⟨wr.heap.size, 1, none⟩ = some (.string aks) := by rw [hbx5.cell]; rfl
                    have hy64 : ys.length ≤ 64 := hM5.len
                    have hyR : ¬ R < ys.length := by have h : (ys.length : Int) ≤ R := hM5.2.2.2.1; omega
                    clear hbx5 hM5 F5 e0 e1 e2 e3
                    go_wp2_with fail
                    refine (count_any a2 H5.out).mono ?_
                    rintro e w6 ⟨rfl, q, rfl⟩
                    rw [HCI.out]
                    clear f0 f1
                    go_wp2_with fail
                    refine (all_any (H5.out.drewN q)).mono ?_
                    rintro e w7 ⟨c7, rfl, _, hb7⟩
                    have H7 := Lib.hid ((H5.out.drewN q).below hb7)
                    clear hb7
                    go_wp2_with fail
                    refine ⟨⟨k + 1, v5, ys, m + 1, by go_num, by omega, by go_num, by have := HCI.out; have := cntOf_le ys a2; omega, Lib.hid (by have := HCI.out; omega), H7⟩, ?_⟩
                    simp [intOf]; omega
                · have hbs : (aks.toList == a2.toList) = false := by rw [bytes_eq]; simp [hS]
                  obtain ⟨ys, hys⟩ : ∃ ys, ys = xs ++ [aks] := ⟨_, rfl⟩
                  have hact : actF R xs ⟨0, aks, an, ato⟩ = (ys, ⟨#[]⟩, true) := by
                    rw [hys]
                    simp [actF, sendF, hfull]
                  have HACT := Lib.hid hact
                  have hci : ((cntOf ys a2 : Nat) : Int) = (m : Int) := by
                    rw [hys, cntOf_append, cntOf_one, if_neg hS]; have := HMC.out; omega
                  have HCI := Lib.hid hci
                  clear hact hci hys hfull hS
                  as_aux_lemma =>
                    refine (do_any ⟨0, aks, an, ato⟩ H4.out).mono ?_
                    rintro e w5 ⟨rfl, v5, hM5, F5, _⟩
                    rw [HACT.out] at hM5
                    simp only [HACT.out]
                    have H5 := Lib.hid hM5
                    have hbx5 := HX4.out.far F5 HNO.out
                    have f0 : w5.cell? ⟨wr.heap.size, 0, none⟩ = some (.int .i64 0) := by rw [hbx5.cell]; rfl
                    have f1 : w5.cell? ⟨wr.heap.size, 1, none⟩ = some (.string aks) := by rw [hbx5.cell]; rfl
                    have hy64 : ys.length ≤ 64 := hM5.len
                    have hyR : ¬ R < ys.length := by have h : (ys.length : Int) ≤ R := hM5.2.2.2.1; omega
                    clear hbx5 hM5 F5 e0 e1 e2 e3
                    go_wp2_with fail
                    refine (count_any a2 H5.out).mono ?_
                    rintro e w6 ⟨rfl, q, rfl⟩
                    rw [HCI.out]
                    clear f0 f1
                    go_wp2_with fail
                    refine (all_any (H5.out.drewN q)).mono ?_
                    rintro e w7 ⟨c7, rfl, _, hb7⟩
                    have H7 := Lib.hid ((H5.out.drewN q).below hb7)
                    clear hb7
                    go_wp2_with fail
                    refine ⟨⟨k + 1, v5, ys, m, by go_num, by omega, by go_num, by have := HCI.out; have := cntOf_le ys a2; omega, Lib.hid (by have := HCI.out; omega), H7⟩, ?_⟩
                    simp [intOf]; omega
            · by_cases k1 : ak = 1
              · subst k1
                have hg := NONE.out (by omega)
                obtain ⟨ys, hys⟩ : ∃ ys, ys = xs := ⟨_, rfl⟩
                have hact : actF R xs ⟨1, aks, an, ato⟩ = (ys, ⟨#[]⟩, false) := by
                  rw [hys]
                  simp [actF, takeF, hg]
                have HACT := Lib.hid hact
                have hci : ((cntOf ys a2 : Nat) : Int) = (m : Int) := by
                  rw [hys]; have := HMC.out; omega
                have HCI := Lib.hid hci
                clear hact hci hys hg k0
                as_aux_lemma =>
                  refine (do_any ⟨1, aks, an, ato⟩ H4.out).mono ?_
                  rintro e w5 ⟨rfl, v5, hM5, F5, _⟩
                  rw [HACT.out] at hM5
                  simp only [HACT.out]
                  have H5 := Lib.hid hM5
                  have hbx5 := HX4.out.far F5 HNO.out
                  have f0 : w5.cell? ⟨wr.heap.size, 0, none⟩ = some (.int .i64 1) := by rw [hbx5.cell]; rfl
                  have f1 : w5.cell? ⟨wr.heap.size, 1, none⟩ = some (.string aks) := by rw [hbx5.cell]; rfl
                  have hy64 : ys.length ≤ 64 := hM5.len
                  have hyR : ¬ R < ys.length := by have h : (ys.length : Int) ≤ R := hM5.2.2.2.1; omega
                  clear hbx5 hM5 F5 e0 e1 e2 e3
                  go_wp2_with fail
                  refine (count_any a2 H5.out).mono ?_
                  rintro e w6 ⟨rfl, q, rfl⟩
                  rw [HCI.out]
                  clear f0 f1
                  go_wp2_with fail
                  refine (all_any (H5.out.drewN q)).mono ?_
                  rintro e w7 ⟨c7, rfl, _, hb7⟩
                  have H7 := Lib.hid ((H5.out.drewN q).below hb7)
                  clear hb7
                  go_wp2_with fail
                  refine ⟨⟨k + 1, v5, ys, m, by go_num, by omega, by go_num, by have := HCI.out; have := cntOf_le ys a2; omega, Lib.hid (by have := HCI.out; omega), H7⟩, ?_⟩
                  simp [intOf]; omega
              · by_cases k2 : ak = 2
                · subst k2
                  have hg := NONE.out (by omega)
                  obtain ⟨ys, hys⟩ : ∃ ys, ys = xs := ⟨_, rfl⟩
                  have hact : actF R xs ⟨2, aks, an, ato⟩ = (ys, ⟨#[]⟩, false) := by
                    rw [hys]
                    simp [actF, takeF, hg]
                  have HACT := Lib.hid hact
                  have hci : ((cntOf ys a2 : Nat) : Int) = (m : Int) := by
                    rw [hys]; have := HMC.out; omega
                  have HCI := Lib.hid hci
                  clear hact hci hys hg k0 k1
                  as_aux_lemma =>
                    refine (do_any ⟨2, aks, an, ato⟩ H4.out).mono ?_
                    rintro e w5 ⟨rfl, v5, hM5, F5, _⟩
                    rw [HACT.out] at hM5
                    simp only [HACT.out]
                    have H5 := Lib.hid hM5
                    have hbx5 := HX4.out.far F5 HNO.out
                    have f0 : w5.cell? ⟨wr.heap.size, 0, none⟩ = some (.int .i64 2) := by rw [hbx5.cell]; rfl
                    have f1 : w5.cell? ⟨wr.heap.size, 1, none⟩ = some (.string aks) := by rw [hbx5.cell]; rfl
                    have hy64 : ys.length ≤ 64 := hM5.len
                    have hyR : ¬ R < ys.length := by have h : (ys.length : Int) ≤ R := hM5.2.2.2.1; omega
                    clear hbx5 hM5 F5 e0 e1 e2 e3
                    go_wp2_with fail
                    refine (count_any a2 H5.out).mono ?_
                    rintro e w6 ⟨rfl, q, rfl⟩
                    rw [HCI.out]
                    clear f0 f1
                    go_wp2_with fail
                    refine (all_any (H5.out.drewN q)).mono ?_
                    rintro e w7 ⟨c7, rfl, _, hb7⟩
                    have H7 := Lib.hid ((H5.out.drewN q).below hb7)
                    clear hb7
                    go_wp2_with fail
                    refine ⟨⟨k + 1, v5, ys, m, by go_num, by omega, by go_num, by have := HCI.out; have := cntOf_le ys a2; omega, Lib.hid (by have := HCI.out; omega), H7⟩, ?_⟩
                    simp [intOf]; omega
                · by_cases k3 : ak = 3
                  · subst k3
                    have hg := NONE.out (by omega)
                    obtain ⟨ys, hys⟩ : ∃ ys, ys = xs := ⟨_, rfl⟩
                    have hact : actF R xs ⟨3, aks, an, ato⟩ = (ys, ⟨#[]⟩, false) := by
                      rw [hys]
                      simp [actF, doubleF, hg]
                    have HACT := Lib.hid hact
                    have hci : ((cntOf ys a2 : Nat) : Int) = (m : Int) := by
                      rw [hys]; have := HMC.out; omega
                    have HCI := Lib.hid hci
                    clear hact hci hys hg k0 k1 k2
                    as_aux_lemma =>
                      refine (do_any ⟨3, aks, an, ato⟩ H4.out).mono ?_
                      rintro e w5 ⟨rfl, v5, hM5, F5, _⟩
                      rw [HACT.out] at hM5
                      simp only [HACT.out]
                      have H5 := Lib.hid hM5
                      have hbx5 := HX4.out.far F5 HNO.out
                      have f0 : w5.cell? ⟨wr.heap.size, 0, none⟩ = some (.int .i64 3) := by rw [hbx5.cell]; rfl
                      have f1 : w5.cell? ⟨wr.heap.size, 1, none⟩ = some (.string aks) := by rw [hbx5.cell]; rfl
                      have hy64 : ys.length ≤ 64 := hM5.len
                      have hyR : ¬ R < ys.length := by have h : (ys.length : Int) ≤ R := hM5.2.2.2.1; omega
                      clear hbx5 hM5 F5 e0 e1 e2 e3
                      go_wp2_with fail
                      refine (count_any a2 H5.out).mono ?_
                      rintro e w6 ⟨rfl, q, rfl⟩
                      rw [HCI.out]
                      clear f0 f1
                      go_wp2_with fail
                      refine (all_any (H5.out.drewN q)).mono ?_
                      rintro e w7 ⟨c7, rfl, _, hb7⟩
                      have H7 := Lib.hid ((H5.out.drewN q).below hb7)
                      clear hb7
                      go_wp2_with fail
                      refine ⟨⟨k + 1, v5, ys, m, by go_num, by omega, by go_num, by have := HCI.out; have := cntOf_le ys a2; omega, Lib.hid (by have := HCI.out; omega), H7⟩, ?_⟩
                      simp [intOf]; omega
                  · rcases hmv : (moveF xs an ato).2 with _ | _
                    · obtain ⟨ys, hys⟩ : ∃ ys, ys = (moveF xs an ato).1 := ⟨_, rfl⟩
                      have hact : actF R xs ⟨ak, aks, an, ato⟩ = (ys, ⟨#[]⟩, false) := by
                        rw [hys]
                        simp [actF, k0, k1, k2, k3, hmv]
                      have HACT := Lib.hid hact
                      have hci : ((cntOf ys a2 : Nat) : Int) = (m : Int) := by
                        rw [hys, cnt_move]; have := HMC.out; omega
                      have HCI := Lib.hid hci
                      clear hact hci hys hmv
                      as_aux_lemma =>
                        refine (do_any ⟨ak, aks, an, ato⟩ H4.out).mono ?_
                        rintro e w5 ⟨rfl, v5, hM5, F5, _⟩
                        rw [HACT.out] at hM5
                        simp only [HACT.out]
                        have H5 := Lib.hid hM5
                        have hbx5 := HX4.out.far F5 HNO.out
                        have f0 : w5.cell? ⟨wr.heap.size, 0, none⟩ = some (.int .i64 ak) := by rw [hbx5.cell]; rfl
                        have f1 : w5.cell? ⟨wr.heap.size, 1, none⟩ = some (.string aks) := by rw [hbx5.cell]; rfl
                        have hy64 : ys.length ≤ 64 := hM5.len
                        have hyR : ¬ R < ys.length := by have h : (ys.length : Int) ≤ R := hM5.2.2.2.1; omega
                        clear hbx5 hM5 F5 e0 e1 e2 e3
                        go_wp2_with fail
                        refine (count_any a2 H5.out).mono ?_
                        rintro e w6 ⟨rfl, q, rfl⟩
                        rw [HCI.out]
                        clear f0 f1
                        go_wp2_with fail
                        refine (all_any (H5.out.drewN q)).mono ?_
                        rintro e w7 ⟨c7, rfl, _, hb7⟩
                        have H7 := Lib.hid ((H5.out.drewN q).below hb7)
                        clear hb7
                        go_wp2_with fail
                        refine ⟨⟨k + 1, v5, ys, m, by go_num, by omega, by go_num, by have := HCI.out; have := cntOf_le ys a2; omega, Lib.hid (by have := HCI.out; omega), H7⟩, ?_⟩
                        simp [intOf]; omega
                    · obtain ⟨ys, hys⟩ : ∃ ys, ys = (moveF xs an ato).1 := ⟨_, rfl⟩
                      have hact : actF R xs ⟨ak, aks, an, ato⟩ = (ys, ⟨#[]⟩, true) := by
                        rw [hys]
                        simp [actF, k0, k1, k2, k3, hmv]
                      have HACT := Lib.hid hact
                      have hci : ((cntOf ys a2 : Nat) : Int) = (m : Int) := by
                        rw [hys, cnt_move]; have := HMC.out; omega
                      have HCI := Lib.hid hci
                      clear hact hci hys hmv
                      as_aux_lemma =>
                        refine (do_any ⟨ak, aks, an, ato⟩ H4.out).mono ?_
                        rintro e w5 ⟨rfl, v5, hM5, F5, _⟩
                        rw [HACT.out] at hM5
                        simp only [HACT.out]
                        have H5 := Lib.hid hM5
                        have hbx5 := HX4.out.far F5 HNO.out
                        have f0 : w5.cell? ⟨wr.heap.size, 0, none⟩ = some (.int .i64 ak) := by rw [hbx5.cell]; rfl
                        have f1 : w5.cell? ⟨wr.heap.size, 1, none⟩ = some (.string aks) := by rw [hbx5.cell]; rfl
                        have hy64 : ys.length ≤ 64 := hM5.len
                        have hyR : ¬ R < ys.length := by have h : (ys.length : Int) ≤ R := hM5.2.2.2.1; omega
                        clear hbx5 hM5 F5 e0 e1 e2 e3
                        go_wp2_with fail
                        refine (count_any a2 H5.out).mono ?_
                        rintro e w6 ⟨rfl, q, rfl⟩
                        rw [HCI.out]
                        clear f0 f1
                        go_wp2_with fail
                        refine (all_any (H5.out.drewN q)).mono ?_
                        rintro e w7 ⟨c7, rfl, _, hb7⟩
                        have H7 := Lib.hid ((H5.out.drewN q).below hb7)
                        clear hb7
                        go_wp2_with fail
                        refine ⟨⟨k + 1, v5, ys, m, by go_num, by omega, by go_num, by have := HCI.out; have := cntOf_le ys a2; omega, Lib.hid (by have := HCI.out; omega), H7⟩, ?_⟩
                        simp [intOf]; omega
          · have hxc := HSl.out.at0 hx
            by_cases hxs : x = a2
            · have hbe : (x.toList == a2.toList) = true := by rw [bytes_eq]; simp [hxs]
              have g7 : 1 ≤ m := by
                have h9 := cnt_erase xs a2 j x hx
                rw [if_pos hxs] at h9
                have := HMC.out
                omega
              have g8 : ¬ (m : Int) - 1 < 0 := by omega
              have HXS := Lib.hid hxs
              have HXX := Lib.hid hx
              clear hxs hx
              go_wp2_with fail
              have hxs := HXS.out
              have hx := HXX.out
              clear HXS HXX
              by_cases k0 : ak = 0
              · subst k0
                by_cases hfull : (xs.length : Int) = (R : Int)
                · obtain ⟨ys, hys⟩ : ∃ ys, ys = xs := ⟨_, rfl⟩
                  have hact : actF R xs ⟨0, aks, (j : Int), ato⟩ = (ys, ⟨#[]⟩, false) := by
                    rw [hys]
                    simp [actF, sendF, hfull]
                  have HACT := Lib.hid hact
                  have hci : ((cntOf ys a2 : Nat) : Int) = (m : Int) := by
                    rw [hys]; have := HMC.out; omega
                  have HCI := Lib.hid hci
                  clear hact hci hys hfull
                  as_aux_lemma =>
                    refine (do_any ⟨0, aks, (j : Int), ato⟩ H4.out).mono ?_
                    rintro e w5 ⟨rfl, v5, hM5, F5, _⟩
                    rw [HACT.out] at hM5
                    simp only [HACT.out]
                    have H5 := Lib.hid hM5
                    have hbx5 := HX4.out.far F5 HNO.out
                    have f0 : w5.cell? ⟨wr.heap.size, 0, none⟩ = some (.int .i64 0) := by rw [hbx5.cell]; rfl
                    have f1 : w5.cell? ⟨wr.heap.size, 1, none⟩ = some (.string aks) := by rw [hbx5.cell]; rfl
                    have hy64 : ys.length ≤ 64 := hM5.len
                    have hyR : ¬ R < ys.length := by have h : (ys.length : Int) ≤ R := hM5.2.2.2.1; omega
                    clear hbx5 hM5 F5 e0 e1 e2 e3
                    go_wp2_with fail
                    refine (count_any a2 H5.out).mono ?_
                    rintro e w6 ⟨rfl, q, rfl⟩
                    rw [HCI.out]
                    clear f0 f1
                    go_wp2_with fail
                    refine (all_any (H5.out.drewN q)).mono ?_
                    rintro e w7 ⟨c7, rfl, _, hb7⟩
                    have H7 := Lib.hid ((H5.out.drewN q).below hb7)
                    clear hb7
                    go_wp2_with fail
                    refine ⟨⟨k + 1, v5, ys, m, by go_num, by omega, by go_num, by have := HCI.out; have := cntOf_le ys a2; omega, Lib.hid (by have := HCI.out; omega), H7⟩, ?_⟩
                    simp [intOf]; omega
                · by_cases hS : aks = a2
                  · have hbs : (aks.toList == a2.toList) = true := by rw [bytes_eq]; simp [hS]
                    obtain ⟨ys, hys⟩ : ∃ ys, ys = xs ++ [aks] := ⟨_, rfl⟩
                    have hact : actF R xs ⟨0, aks, (j : Int), ato⟩ = (ys, ⟨#[]⟩, true) := by
                      rw [hys]
                      simp [actF, sendF, hfull]
                    have HACT := Lib.hid hact
                    have hci : ((cntOf ys a2 : Nat) : Int) = (m : Int) + 1 := by
                      rw [hys, cntOf_append, cntOf_one, if_pos hS]; have := HMC.out; omega
                    have HCI := Lib.hid hci
                    clear hact hci hys hfull hS
                    as_aux_lemma =>
                      refine (do_any ⟨0, aks, (j : Int), ato⟩ H4.out).mono ?_
                      rintro e w5 ⟨rfl, v5, hM5, F5, _⟩
                      rw [HACT.out] at hM5
                      simp only [HACT.out]
                      have H5 := Lib.hid hM5
                      have hbx5 := HX4.out.far F5 HNO.out
                      have f0 : w5.cell? ⟨wr.heap.size, 0, none⟩ = some (.int .i64 0) := by rw [hbx5.cell]; rfl
                      have f1 : w5.cell? ⟨wr.heap.size, 1, none⟩ = some (.string aks) := by rw [hbx5.cell]; rfl
                      have hy64 : ys.length ≤ 64 := hM5.len
                      have hyR : ¬ R < ys.length := by have h : (ys.length : Int) ≤ R := hM5.2.2.2.1; omega
                      clear hbx5 hM5 F5 e0 e1 e2 e3
                      go_wp2_with fail
                      refine (count_any a2 H5.out).mono ?_
                      rintro e w6 ⟨rfl, q, rfl⟩
                      rw [HCI.out]
                      clear f0 f1
                      go_wp2_with fail
                      refine (all_any (H5.out.drewN q)).mono ?_
                      rintro e w7 ⟨c7, rfl, _, hb7⟩
                      have H7 := Lib.hid ((H5.out.drewN q).below hb7)
                      clear hb7
                      go_wp2_with fail
                      refine ⟨⟨k + 1, v5, ys, m + 1, by go_num, by omega, by go_num, by have := HCI.out; have := cntOf_le ys a2; omega, Lib.hid (by have := HCI.out; omega), H7⟩, ?_⟩
                      simp [intOf]; omega
                  · have hbs : (aks.toList == a2.toList) = false := by rw [bytes_eq]; simp [hS]
                    obtain ⟨ys, hys⟩ : ∃ ys, ys = xs ++ [aks] := ⟨_, rfl⟩
                    have hact : actF R xs ⟨0, aks, (j : Int), ato⟩ = (ys, ⟨#[]⟩, true) := by
                      rw [hys]
                      simp [actF, sendF, hfull]
                    have HACT := Lib.hid hact
                    have hci : ((cntOf ys a2 : Nat) : Int) = (m : Int) := by
                      rw [hys, cntOf_append, cntOf_one, if_neg hS]; have := HMC.out; omega
                    have HCI := Lib.hid hci
                    clear hact hci hys hfull hS
                    as_aux_lemma =>
                      refine (do_any ⟨0, aks, (j : Int), ato⟩ H4.out).mono ?_
                      rintro e w5 ⟨rfl, v5, hM5, F5, _⟩
                      rw [HACT.out] at hM5
                      simp only [HACT.out]
                      have H5 := Lib.hid hM5
                      have hbx5 := HX4.out.far F5 HNO.out
                      have f0 : w5.cell? ⟨wr.heap.size, 0, none⟩ = some (.int .i64 0) := by rw [hbx5.cell]; rfl
                      have f1 : w5.cell? ⟨wr.heap.size, 1, none⟩ = some (.string aks) := by rw [hbx5.cell]; rfl
                      have hy64 : ys.length ≤ 64 := hM5.len
                      have hyR : ¬ R < ys.length := by have h : (ys.length : Int) ≤ R := hM5.2.2.2.1; omega
                      clear hbx5 hM5 F5 e0 e1 e2 e3
                      go_wp2_with fail
                      refine (count_any a2 H5.out).mono ?_
                      rintro e w6 ⟨rfl, q, rfl⟩
                      rw [HCI.out]
                      clear f0 f1
                      go_wp2_with fail
                      refine (all_any (H5.out.drewN q)).mono ?_
                      rintro e w7 ⟨c7, rfl, _, hb7⟩
                      have H7 := Lib.hid ((H5.out.drewN q).below hb7)
                      clear hb7
                      go_wp2_with fail
                      refine ⟨⟨k + 1, v5, ys, m, by go_num, by omega, by go_num, by have := HCI.out; have := cntOf_le ys a2; omega, Lib.hid (by have := HCI.out; omega), H7⟩, ?_⟩
                      simp [intOf]; omega
              · by_cases k1 : ak = 1
                · subst k1
                  have hg : getAt xs (j : Int) = some x := by rw [getAt_nat]; exact hx
                  obtain ⟨ys, hys⟩ : ∃ ys, ys = xs.eraseIdx j := ⟨_, rfl⟩
                  have hact : actF R xs ⟨1, aks, (j : Int), ato⟩ = (ys, x, true) := by
                    rw [hys]
                    simp [actF, takeF, hg]
                  have HACT := Lib.hid hact
                  have hci : ((cntOf ys a2 : Nat) : Int) = (m : Int) - 1 := by
                    have h9 := cnt_erase xs a2 j x hx; rw [if_pos hxs] at h9; rw [hys]; have := HMC.out; omega
                  have HCI := Lib.hid hci
                  clear hact hci hys hg hx hxs k0
                  as_aux_lemma =>
                    refine (do_any ⟨1, aks, (j : Int), ato⟩ H4.out).mono ?_
                    rintro e w5 ⟨rfl, v5, hM5, F5, _⟩
                    rw [HACT.out] at hM5
                    simp only [HACT.out]
                    have H5 := Lib.hid hM5
                    have hbx5 := HX4.out.far F5 HNO.out
                    have f0 : w5.cell? ⟨wr.heap.size, 0, none⟩ = some (.int .i64 1) := by rw [hbx5.cell]; rfl
                    have f1 : w5.cell? ⟨wr.heap.size, 1, none⟩ = some (.string aks) := by rw [hbx5.cell]; rfl
                    have hy64 : ys.length ≤ 64 := hM5.len
                    have hyR : ¬ R < ys.length := by have h : (ys.length : Int) ≤ R := hM5.2.2.2.1; omega
                    clear hbx5 hM5 F5 e0 e1 e2 e3
                    go_wp2_with fail
                    refine (count_any a2 H5.out).mono ?_
                    rintro e w6 ⟨rfl, q, rfl⟩
                    rw [HCI.out]
                    clear f0 f1
                    go_wp2_with fail
                    refine (all_any (H5.out.drewN q)).mono ?_
                    rintro e w7 ⟨c7, rfl, _, hb7⟩
                    have H7 := Lib.hid ((H5.out.drewN q).below hb7)
                    clear hb7
                    go_wp2_with fail
                    refine ⟨⟨k + 1, v5, ys, m - 1, by go_num, by omega, by go_num, by have := HCI.out; have := cntOf_le ys a2; omega, Lib.hid (by have := HCI.out; omega), H7⟩, ?_⟩
                    simp [intOf]; omega
                · by_cases k2 : ak = 2
                  · subst k2
                    have hg : getAt xs (j : Int) = some x := by rw [getAt_nat]; exact hx
                    obtain ⟨ys, hys⟩ : ∃ ys, ys = xs.eraseIdx j := ⟨_, rfl⟩
                    have hact : actF R xs ⟨2, aks, (j : Int), ato⟩ = (ys, ⟨#[]⟩, true) := by
                      rw [hys]
                      simp [actF, takeF, hg]
                    have HACT := Lib.hid hact
                    have hci : ((cntOf ys a2 : Nat) : Int) = (m : Int) - 1 := by
                      have h9 := cnt_erase xs a2 j x hx; rw [if_pos hxs] at h9; rw [hys]; have := HMC.out; omega
                    have HCI := Lib.hid hci
                    clear hact hci hys hg hx hxs k0 k1
                    as_aux_lemma =>
                      refine (do_any ⟨2, aks, (j : Int), ato⟩ H4.out).mono ?_
                      rintro e w5 ⟨rfl, v5, hM5, F5, _⟩
                      rw [HACT.out] at hM5
                      simp only [HACT.out]
                      have H5 := Lib.hid hM5
                      have hbx5 := HX4.out.far F5 HNO.out
                      have f0 : w5.cell? ⟨wr.heap.size, 0, none⟩ = some (.int .i64 2) := by rw [hbx5.cell]; rfl
                      have f1 : w5.cell? ⟨wr.heap.size, 1, none⟩ = some (.string aks) := by rw [hbx5.cell]; rfl
                      have hy64 : ys.length ≤ 64 := hM5.len
                      have hyR : ¬ R < ys.length := by have h : (ys.length : Int) ≤ R := hM5.2.2.2.1; omega
                      clear hbx5 hM5 F5 e0 e1 e2 e3
                      go_wp2_with fail
                      refine (count_any a2 H5.out).mono ?_
                      rintro e w6 ⟨rfl, q, rfl⟩
                      rw [HCI.out]
                      clear f0 f1
                      go_wp2_with fail
                      refine (all_any (H5.out.drewN q)).mono ?_
                      rintro e w7 ⟨c7, rfl, _, hb7⟩
                      have H7 := Lib.hid ((H5.out.drewN q).below hb7)
                      clear hb7
                      go_wp2_with fail
                      refine ⟨⟨k + 1, v5, ys, m - 1, by go_num, by omega, by go_num, by have := HCI.out; have := cntOf_le ys a2; omega, Lib.hid (by have := HCI.out; omega), H7⟩, ?_⟩
                      simp [intOf]; omega
                  · by_cases k3 : ak = 3
                    · subst k3
                      have hg : getAt xs (j : Int) = some x := by rw [getAt_nat]; exact hx
                      by_cases hfull : (xs.length : Int) = (R : Int)
                      · obtain ⟨ys, hys⟩ : ∃ ys, ys = xs := ⟨_, rfl⟩
                        have hact : actF R xs ⟨3, aks, (j : Int), ato⟩ = (ys, ⟨#[]⟩, false) := by
                          rw [hys]
                          simp [actF, doubleF, sendF, hg, hfull]
                        have HACT := Lib.hid hact
                        have hci : ((cntOf ys a2 : Nat) : Int) = (m : Int) := by
                          rw [hys]; have := HMC.out; omega
                        have HCI := Lib.hid hci
                        clear hact hci hys hg hfull hx hxs k0 k1 k2
                        as_aux_lemma =>
                          refine (do_any ⟨3, aks, (j : Int), ato⟩ H4.out).mono ?_
                          rintro e w5 ⟨rfl, v5, hM5, F5, _⟩
                          rw [HACT.out] at hM5
                          simp only [HACT.out]
                          have H5 := Lib.hid hM5
                          have hbx5 := HX4.out.far F5 HNO.out
                          have f0 : w5.cell? ⟨wr.heap.size, 0, none⟩ = some (.int .i64 3) := by rw [hbx5.cell]; rfl
                          have f1 : w5.cell? ⟨wr.heap.size, 1, none⟩ = some (.string aks) := by rw [hbx5.cell]; rfl
                          have hy64 : ys.length ≤ 64 := hM5.len
                          have hyR : ¬ R < ys.length := by have h : (ys.length : Int) ≤ R := hM5.2.2.2.1; omega
                          clear hbx5 hM5 F5 e0 e1 e2 e3
                          go_wp2_with fail
                          refine (count_any a2 H5.out).mono ?_
                          rintro e w6 ⟨rfl, q, rfl⟩
                          rw [HCI.out]
                          clear f0 f1
                          go_wp2_with fail
                          refine (all_any (H5.out.drewN q)).mono ?_
                          rintro e w7 ⟨c7, rfl, _, hb7⟩
                          have H7 := Lib.hid ((H5.out.drewN q).below hb7)
                          clear hb7
                          go_wp2_with fail
                          refine ⟨⟨k + 1, v5, ys, m, by go_num, by omega, by go_num, by have := HCI.out; have := cntOf_le ys a2; omega, Lib.hid (by have := HCI.out; omega), H7⟩, ?_⟩
                          simp [intOf]; omega
                      · obtain ⟨ys, hys⟩ : ∃ ys, ys = xs ++ [x] := ⟨_, rfl⟩
                        have hact : actF R xs ⟨3, aks, (j : Int), ato⟩ = (ys, ⟨#[]⟩, true) := by
                          rw [hys]
                          simp [actF, doubleF, sendF, hg, hfull]
                        have HACT := Lib.hid hact
                        have hci : ((cntOf ys a2 : Nat) : Int) = (m : Int) + 1 := by
                          rw [hys, cntOf_append, cntOf_one, if_pos hxs]; have := HMC.out; omega
                        have HCI := Lib.hid hci
                        clear hact hci hys hg hfull hx hxs k0 k1 k2
                        as_aux_lemma =>
                          refine (do_any ⟨3, aks, (j : Int), ato⟩ H4.out).mono ?_
                          rintro e w5 ⟨rfl, v5, hM5, F5, _⟩
                          rw [HACT.out] at hM5
                          simp only [HACT.out]
                          have H5 := Lib.hid hM5
                          have hbx5 := HX4.out.far F5 HNO.out
                          have f0 : w5.cell? ⟨wr.heap.size, 0, none⟩ = some (.int .i64 3) := by rw [hbx5.cell]; rfl
                          have f1 : w5.cell? ⟨wr.heap.size, 1, none⟩ = some (.string aks) := by rw [hbx5.cell]; rfl
                          have hy64 : ys.length ≤ 64 := hM5.len
                          have hyR : ¬ R < ys.length := by have h : (ys.length : Int) ≤ R := hM5.2.2.2.1; omega
                          clear hbx5 hM5 F5 e0 e1 e2 e3
                          go_wp2_with fail
                          refine (count_any a2 H5.out).mono ?_
                          rintro e w6 ⟨rfl, q, rfl⟩
                          rw [HCI.out]
                          clear f0 f1
                          go_wp2_with fail
                          refine (all_any (H5.out.drewN q)).mono ?_
                          rintro e w7 ⟨c7, rfl, _, hb7⟩
                          have H7 := Lib.hid ((H5.out.drewN q).below hb7)
                          clear hb7
                          go_wp2_with fail
                          refine ⟨⟨k + 1, v5, ys, m + 1, by go_num, by omega, by go_num, by have := HCI.out; have := cntOf_le ys a2; omega, Lib.hid (by have := HCI.out; omega), H7⟩, ?_⟩
                          simp [intOf]; omega
                    · rcases hmv : (moveF xs (j : Int) ato).2 with _ | _
                      · obtain ⟨ys, hys⟩ : ∃ ys, ys = (moveF xs (j : Int) ato).1 := ⟨_, rfl⟩
                        have hact : actF R xs ⟨ak, aks, (j : Int), ato⟩ = (ys, ⟨#[]⟩, false) := by
                          rw [hys]
                          simp [actF, k0, k1, k2, k3, hmv]
                        have HACT := Lib.hid hact
                        have hci : ((cntOf ys a2 : Nat) : Int) = (m : Int) := by
                          rw [hys, cnt_move]; have := HMC.out; omega
                        have HCI := Lib.hid hci
                        clear hact hci hys hmv
                        as_aux_lemma =>
                          refine (do_any ⟨ak, aks, (j : Int), ato⟩ H4.out).mono ?_
                          rintro e w5 ⟨rfl, v5, hM5, F5, _⟩
                          rw [HACT.out] at hM5
                          simp only [HACT.out]
                          have H5 := Lib.hid hM5
                          have hbx5 := HX4.out.far F5 HNO.out
                          have f0 : w5.cell? ⟨wr.heap.size, 0, none⟩ = some (.int .i64 ak) := by rw [hbx5.cell]; rfl
                          have f1 : w5.cell? ⟨wr.heap.size, 1, none⟩ = some (.string aks) := by rw [hbx5.cell]; rfl
                          have hy64 : ys.length ≤ 64 := hM5.len
                          have hyR : ¬ R < ys.length := by have h : (ys.length : Int) ≤ R := hM5.2.2.2.1; omega
                          clear hbx5 hM5 F5 e0 e1 e2 e3
                          go_wp2_with fail
                          refine (count_any a2 H5.out).mono ?_
                          rintro e w6 ⟨rfl, q, rfl⟩
                          rw [HCI.out]
                          clear f0 f1
                          go_wp2_with fail
                          refine (all_any (H5.out.drewN q)).mono ?_
                          rintro e w7 ⟨c7, rfl, _, hb7⟩
                          have H7 := Lib.hid ((H5.out.drewN q).below hb7)
                          clear hb7
                          go_wp2_with fail
                          refine ⟨⟨k + 1, v5, ys, m, by go_num, by omega, by go_num, by have := HCI.out; have := cntOf_le ys a2; omega, Lib.hid (by have := HCI.out; omega), H7⟩, ?_⟩
                          simp [intOf]; omega
                      · obtain ⟨ys, hys⟩ : ∃ ys, ys = (moveF xs (j : Int) ato).1 := ⟨_, rfl⟩
                        have hact : actF R xs ⟨ak, aks, (j : Int), ato⟩ = (ys, ⟨#[]⟩, true) := by
                          rw [hys]
                          simp [actF, k0, k1, k2, k3, hmv]
                        have HACT := Lib.hid hact
                        have hci : ((cntOf ys a2 : Nat) : Int) = (m : Int) := by
                          rw [hys, cnt_move]; have := HMC.out; omega
                        have HCI := Lib.hid hci
                        clear hact hci hys hmv
                        have kb1 : (ak == 1) = false := by simpa using k1
                        have kb2 : (ak == 2) = false := by simpa using k2
                        as_aux_lemma =>
                          refine (do_any ⟨ak, aks, (j : Int), ato⟩ H4.out).mono ?_
                          rintro e w5 ⟨rfl, v5, hM5, F5, _⟩
                          rw [HACT.out] at hM5
                          simp only [HACT.out]
                          have H5 := Lib.hid hM5
                          have hbx5 := HX4.out.far F5 HNO.out
                          have f0 : w5.cell? ⟨wr.heap.size, 0, none⟩ = some (.int .i64 ak) := by rw [hbx5.cell]; rfl
                          have f1 : w5.cell? ⟨wr.heap.size, 1, none⟩ = some (.string aks) := by rw [hbx5.cell]; rfl
                          have hy64 : ys.length ≤ 64 := hM5.len
                          have hyR : ¬ R < ys.length := by have h : (ys.length : Int) ≤ R := hM5.2.2.2.1; omega
                          clear hbx5 hM5 F5 e0 e1 e2 e3
                          go_wp2_with fail
                          refine (count_any a2 H5.out).mono ?_
                          rintro e w6 ⟨rfl, q, rfl⟩
                          rw [HCI.out]
                          clear f0 f1
                          go_wp2_with fail
                          refine (all_any (H5.out.drewN q)).mono ?_
                          rintro e w7 ⟨c7, rfl, _, hb7⟩
                          have H7 := Lib.hid ((H5.out.drewN q).below hb7)
                          clear hb7
                          go_wp2_with fail
                          refine ⟨⟨k + 1, v5, ys, m, by go_num, by omega, by go_num, by have := HCI.out; have := cntOf_le ys a2; omega, Lib.hid (by have := HCI.out; omega), H7⟩, ?_⟩
                          simp [intOf]; omega
            · have hbe : (x.toList == a2.toList) = false := by rw [bytes_eq]; simp [hxs]
              have HXS := Lib.hid hxs
              have HXX := Lib.hid hx
              clear hxs hx
              go_wp2_with fail
              have hxs := HXS.out
              have hx := HXX.out
              clear HXS HXX
              by_cases k0 : ak = 0
              · subst k0
                by_cases hfull : (xs.length : Int) = (R : Int)
                · obtain ⟨ys, hys⟩ : ∃ ys, ys = xs := ⟨_, rfl⟩
                  have hact : actF R xs ⟨0, aks, (j : Int), ato⟩ = (ys, ⟨#[]⟩, false) := by
                    rw [hys]
                    simp [actF, sendF, hfull]
                  have HACT := Lib.hid hact
                  have hci : ((cntOf ys a2 : Nat) : Int) = (m : Int) := by
                    rw [hys]; have := HMC.out; omega
                  have HCI := Lib.hid hci
                  clear hact hci hys hfull
                  as_aux_lemma =>
                    refine (do_any ⟨0, aks, (j : Int), ato⟩ H4.out).mono ?_
                    rintro e w5 ⟨rfl, v5, hM5, F5, _⟩
                    rw [HACT.out] at hM5
                    simp only [HACT.out]
                    have H5 := Lib.hid hM5
                    have hbx5 := HX4.out.far F5 HNO.out
                    have f0 : w5.cell? ⟨wr.heap.size, 0, none⟩ = some (.int .i64 0) := by rw [hbx5.cell]; rfl
                    have f1 : w5.cell? ⟨wr.heap.size, 1, none⟩ = some (.string aks) := by rw [hbx5.cell]; rfl
                    have hy64 : ys.length ≤ 64 := hM5.len
                    have hyR : ¬ R < ys.length := by have h : (ys.length : Int) ≤ R := hM5.2.2.2.1; omega
                    clear hbx5 hM5 F5 e0 e1 e2 e3
                    go_wp2_with fail
                    refine (count_any a2 H5.out).mono ?_
                    rintro e w6 ⟨rfl, q, rfl⟩
                    rw [HCI.out]
                    clear f0 f1
                    go_wp2_with fail
                    refine (all_any (H5.out.drewN q)).mono ?_
                    rintro e w7 ⟨c7, rfl, _, hb7⟩
                    have H7 := Lib.hid ((H5.out.drewN q).below hb7)
                    clear hb7
                    go_wp2_with fail
                    refine ⟨⟨k + 1, v5, ys, m, by go_num, by omega, by go_num, by have := HCI.out; have := cntOf_le ys a2; omega, Lib.hid (by have := HCI.out; omega), H7⟩, ?_⟩
                    simp [intOf]; omega
                · by_cases hS : aks = a2
                  · have hbs : (aks.toList == a2.toList) = true := by rw [bytes_eq]; simp [hS]
                    obtain ⟨ys, hys⟩ : ∃ ys, ys = xs ++ [aks] := ⟨_, rfl⟩
                    have hact : actF R xs ⟨0, aks, (j : Int), ato⟩ = (ys, ⟨#[]⟩, true) := by
                      rw [hys]
                      simp [actF, sendF, hfull]
                    have HACT := Lib.hid hact
                    have hci : ((cntOf ys a2 : Nat) : Int) = (m : Int) + 1 := by
                      rw [hys, cntOf_append, cntOf_one, if_pos hS]; have := HMC.out; omega
                    have HCI := Lib.hid hci
                    clear hact hci hys hfull hS
                    as_aux_lemma =>
                      refine (do_any ⟨0, aks, (j : Int), ato⟩ H4.out).mono ?_
                      rintro e w5 ⟨rfl, v5, hM5, F5, _⟩
                      rw [HACT.out] at hM5
                      simp only [HACT.out]
                      have H5 := Lib.hid hM5
                      have hbx5 := HX4.out.far F5 HNO.out
                      have f0 : w5.cell? ⟨wr.heap.size, 0, none⟩ = some (.int .i64 0) := by rw [hbx5.cell]; rfl
                      have f1 : w5.cell? ⟨wr.heap.size, 1, none⟩ = some (.string aks) := by rw [hbx5.cell]; rfl
                      have hy64 : ys.length ≤ 64 := hM5.len
                      have hyR : ¬ R < ys.length := by have h : (ys.length : Int) ≤ R := hM5.2.2.2.1; omega
                      clear hbx5 hM5 F5 e0 e1 e2 e3
                      go_wp2_with fail
                      refine (count_any a2 H5.out).mono ?_
                      rintro e w6 ⟨rfl, q, rfl⟩
                      rw [HCI.out]
                      clear f0 f1
                      go_wp2_with fail
                      refine (all_any (H5.out.drewN q)).mono ?_
                      rintro e w7 ⟨c7, rfl, _, hb7⟩
                      have H7 := Lib.hid ((H5.out.drewN q).below hb7)
                      clear hb7
                      go_wp2_with fail
                      refine ⟨⟨k + 1, v5, ys, m + 1, by go_num, by omega, by go_num, by have := HCI.out; have := cntOf_le ys a2; omega, Lib.hid (by have := HCI.out; omega), H7⟩, ?_⟩
                      simp [intOf]; omega
                  · have hbs : (aks.toList == a2.toList) = false := by rw [bytes_eq]; simp [hS]
                    obtain ⟨ys, hys⟩ : ∃ ys, ys = xs ++ [aks] := ⟨_, rfl⟩
                    have hact : actF R xs ⟨0, aks, (j : Int), ato⟩ = (ys, ⟨#[]⟩, true) := by
                      rw [hys]
                      simp [actF, sendF, hfull]
                    have HACT := Lib.hid hact
                    have hci : ((cntOf ys a2 : Nat) : Int) = (m : Int) := by
                      rw [hys, cntOf_append, cntOf_one, if_neg hS]; have := HMC.out; omega
                    have HCI := Lib.hid hci
                    clear hact hci hys hfull hS
                    as_aux_lemma =>
                      refine (do_any ⟨0, aks, (j : Int), ato⟩ H4.out).mono ?_
                      rintro e w5 ⟨rfl, v5, hM5, F5, _⟩
                      rw [HACT.out] at hM5
                      simp only [HACT.out]
                      have H5 := Lib.hid hM5
                      have hbx5 := HX4.out.far F5 HNO.out
                      have f0 : w5.cell? ⟨wr.heap.size, 0, none⟩ = some (.int .i64 0) := by rw [hbx5.cell]; rfl
                      have f1 : w5.cell? ⟨wr.heap.size, 1, none⟩ = some (.string aks) := by rw [hbx5.cell]; rfl
                      have hy64 : ys.length ≤ 64 := hM5.len
                      have hyR : ¬ R < ys.length := by have h : (ys.length : Int) ≤ R := hM5.2.2.2.1; omega
                      clear hbx5 hM5 F5 e0 e1 e2 e3
                      go_wp2_with fail
                      refine (count_any a2 H5.out).mono ?_
                      rintro e w6 ⟨rfl, q, rfl⟩
                      rw [HCI.out]
                      clear f0 f1
                      go_wp2_with fail
                      refine (all_any (H5.out.drewN q)).mono ?_
                      rintro e w7 ⟨c7, rfl, _, hb7⟩
                      have H7 := Lib.hid ((H5.out.drewN q).below hb7)
                      clear hb7
                      go_wp2_with fail
                      refine ⟨⟨k + 1, v5, ys, m, by go_num, by omega, by go_num, by have := HCI.out; have := cntOf_le ys a2; omega, Lib.hid (by have := HCI.out; omega), H7⟩, ?_⟩
                      simp [intOf]; omega
              · by_cases k1 : ak = 1
                · subst k1
                  have hg : getAt xs (j : Int) = some x := by rw [getAt_nat]; exact hx
                  obtain ⟨ys, hys⟩ : ∃ ys, ys = xs.eraseIdx j := ⟨_, rfl⟩
                  have hact : actF R xs ⟨1, aks, (j : Int), ato⟩ = (ys, x, true) := by
                    rw [hys]
                    simp [actF, takeF, hg]
                  have HACT := Lib.hid hact
                  have hci : ((cntOf ys a2 : Nat) : Int) = (m : Int) := by
                    have h9 := cnt_erase xs a2 j x hx; rw [if_neg hxs] at h9; rw [hys]; have := HMC.out; omega
                  have HCI := Lib.hid hci
                  clear hact hci hys hg hx hxs k0
                  as_aux_lemma =>
                    refine (do_any ⟨1, aks, (j : Int), ato⟩ H4.out).mono ?_
                    rintro e w5 ⟨rfl, v5, hM5, F5, _⟩
                    rw [HACT.out] at hM5
                    simp only [HACT.out]
                    have H5 := Lib.hid hM5
                    have hbx5 := HX4.out.far F5 HNO.out
                    have f0 : w5.cell? ⟨wr.heap.size, 0, none⟩ = some (.int .i64 1) := by rw [hbx5.cell]; rfl
                    have f1 : w5.cell? ⟨wr.heap.size, 1, none⟩ = some (.string aks) := by rw [hbx5.cell]; rfl
                    have hy64 : ys.length ≤ 64 := hM5.len
                    have hyR : ¬ R < ys.length := by have h : (ys.length : Int) ≤ R := hM5.2.2.2.1; omega
                    clear hbx5 hM5 F5 e0 e1 e2 e3
                    go_wp2_with fail
                    refine (count_any a2 H5.out).mono ?_
                    rintro e w6 ⟨rfl, q, rfl⟩
                    rw [HCI.out]
                    clear f0 f1
                    go_wp2_with fail
                    refine (all_any (H5.out.drewN q)).mono ?_
                    rintro e w7 ⟨c7, rfl, _, hb7⟩
                    have H7 := Lib.hid ((H5.out.drewN q).below hb7)
                    clear hb7
                    go_wp2_with fail
                    refine ⟨⟨k + 1, v5, ys, m, by go_num, by omega, by go_num, by have := HCI.out; have := cntOf_le ys a2; omega, Lib.hid (by have := HCI.out; omega), H7⟩, ?_⟩
                    simp [intOf]; omega
                · by_cases k2 : ak = 2
                  · subst k2
                    have hg : getAt xs (j : Int) = some x := by rw [getAt_nat]; exact hx
                    obtain ⟨ys, hys⟩ : ∃ ys, ys = xs.eraseIdx j := ⟨_, rfl⟩
                    have hact : actF R xs ⟨2, aks, (j : Int), ato⟩ = (ys, ⟨#[]⟩, true) := by
                      rw [hys]
                      simp [actF, takeF, hg]
                    have HACT := Lib.hid hact
                    have hci : ((cntOf ys a2 : Nat) : Int) = (m : Int) := by
                      have h9 := cnt_erase xs a2 j x hx; rw [if_neg hxs] at h9; rw [hys]; have := HMC.out; omega
                    have HCI := Lib.hid hci
                    clear hact hci hys hg hx hxs k0 k1
                    as_aux_lemma =>
                      refine (do_any ⟨2, aks, (j : Int), ato⟩ H4.out).mono ?_
                      rintro e w5 ⟨rfl, v5, hM5, F5, _⟩
                      rw [HACT.out] at hM5
                      simp only [HACT.out]
                      have H5 := Lib.hid hM5
                      have hbx5 := HX4.out.far F5 HNO.out
                      have f0 : w5.cell? ⟨wr.heap.size, 0, none⟩ = some (.int .i64 2) := by rw [hbx5.cell]; rfl
                      have f1 : w5.cell? ⟨wr.heap.size, 1, none⟩ = some (.string aks) := by rw [hbx5.cell]; rfl
                      have hy64 : ys.length ≤ 64 := hM5.len
                      have hyR : ¬ R < ys.length := by have h : (ys.length : Int) ≤ R := hM5.2.2.2.1; omega
                      clear hbx5 hM5 F5 e0 e1 e2 e3
                      go_wp2_with fail
                      refine (count_any a2 H5.out).mono ?_
                      rintro e w6 ⟨rfl, q, rfl⟩
                      rw [HCI.out]
                      clear f0 f1
                      go_wp2_with fail
                      refine (all_any (H5.out.drewN q)).mono ?_
                      rintro e w7 ⟨c7, rfl, _, hb7⟩
                      have H7 := Lib.hid ((H5.out.drewN q).below hb7)
                      clear hb7
                      go_wp2_with fail
                      refine ⟨⟨k + 1, v5, ys, m, by go_num, by omega, by go_num, by have := HCI.out; have := cntOf_le ys a2; omega, Lib.hid (by have := HCI.out; omega), H7⟩, ?_⟩
                      simp [intOf]; omega
                  · by_cases k3 : ak = 3
                    · subst k3
                      have hg : getAt xs (j : Int) = some x := by rw [getAt_nat]; exact hx
                      by_cases hfull : (xs.length : Int) = (R : Int)
                      · obtain ⟨ys, hys⟩ : ∃ ys, ys = xs := ⟨_, rfl⟩
                        have hact : actF R xs ⟨3, aks, (j : Int), ato⟩ = (ys, ⟨#[]⟩, false) := by
                          rw [hys]
                          simp [actF, doubleF, sendF, hg, hfull]
                        have HACT := Lib.hid hact
                        have hci : ((cntOf ys a2 : Nat) : Int) = (m : Int) := by
                          rw [hys]; have := HMC.out; omega
                        have HCI := Lib.hid hci
                        clear hact hci hys hg hfull hx hxs k0 k1 k2
                        as_aux_lemma =>
                          refine (do_any ⟨3, aks, (j : Int), ato⟩ H4.out).mono ?_
                          rintro e w5 ⟨rfl, v5, hM5, F5, _⟩
                          rw [HACT.out] at hM5
                          simp only [HACT.out]
                          have H5 := Lib.hid hM5
                          have hbx5 := HX4.out.far F5 HNO.out
                          have f0 : w5.cell? ⟨wr.heap.size, 0, none⟩ = some (.int .i64 3) := by rw [hbx5.cell]; rfl
                          have f1 : w5.cell? ⟨wr.heap.size, 1, none⟩ = some (.string aks) := by rw [hbx5.cell]; rfl
                          have hy64 : ys.length ≤ 64 := hM5.len
                          have hyR : ¬ R < ys.length := by have h : (ys.length : Int) ≤ R := hM5.2.2.2.1; omega
                          clear hbx5 hM5 F5 e0 e1 e2 e3
                          go_wp2_with fail
                          refine (count_any a2 H5.out).mono ?_
                          rintro e w6 ⟨rfl, q, rfl⟩
                          rw [HCI.out]
                          clear f0 f1
                          go_wp2_with fail
                          refine (all_any (H5.out.drewN q)).mono ?_
                          rintro e w7 ⟨c7, rfl, _, hb7⟩
                          have H7 := Lib.hid ((H5.out.drewN q).below hb7)
                          clear hb7
                          go_wp2_with fail
                          refine ⟨⟨k + 1, v5, ys, m, by go_num, by omega, by go_num, by have := HCI.out; have := cntOf_le ys a2; omega, Lib.hid (by have := HCI.out; omega), H7⟩, ?_⟩
                          simp [intOf]; omega
                      · obtain ⟨ys, hys⟩ : ∃ ys, ys = xs ++ [x] := ⟨_, rfl⟩
                        have hact : actF R xs ⟨3, aks, (j : Int), ato⟩ = (ys, ⟨#[]⟩, true) := by
                          rw [hys]
                          simp [actF, doubleF, sendF, hg, hfull]
                        have HACT := Lib.hid hact
                        have hci : ((cntOf ys a2 : Nat) : Int) = (m : Int) := by
                          rw [hys, cntOf_append, cntOf_one, if_neg hxs]; have := HMC.out; omega
                        have HCI := Lib.hid hci
                        clear hact hci hys hg hfull hx hxs k0 k1 k2
                        as_aux_lemma =>
                          refine (do_any ⟨3, aks, (j : Int), ato⟩ H4.out).mono ?_
                          rintro e w5 ⟨rfl, v5, hM5, F5, _⟩
                          rw [HACT.out] at hM5
                          simp only [HACT.out]
                          have H5 := Lib.hid hM5
                          have hbx5 := HX4.out.far F5 HNO.out
                          have f0 : w5.cell? ⟨wr.heap.size, 0, none⟩ = some (.int .i64 3) := by rw [hbx5.cell]; rfl
                          have f1 : w5.cell? ⟨wr.heap.size, 1, none⟩ = some (.string aks) := by rw [hbx5.cell]; rfl
                          have hy64 : ys.length ≤ 64 := hM5.len
                          have hyR : ¬ R < ys.length := by have h : (ys.length : Int) ≤ R := hM5.2.2.2.1; omega
                          clear hbx5 hM5 F5 e0 e1 e2 e3
                          go_wp2_with fail
                          refine (count_any a2 H5.out).mono ?_
                          rintro e w6 ⟨rfl, q, rfl⟩
                          rw [HCI.out]
                          clear f0 f1
                          go_wp2_with fail
                          refine (all_any (H5.out.drewN q)).mono ?_
                          rintro e w7 ⟨c7, rfl, _, hb7⟩
                          have H7 := Lib.hid ((H5.out.drewN q).below hb7)
                          clear hb7
                          go_wp2_with fail
                          refine ⟨⟨k + 1, v5, ys, m, by go_num, by omega, by go_num, by have := HCI.out; have := cntOf_le ys a2; omega, Lib.hid (by have := HCI.out; omega), H7⟩, ?_⟩
                          simp [intOf]; omega
                    · rcases hmv : (moveF xs (j : Int) ato).2 with _ | _
                      · obtain ⟨ys, hys⟩ : ∃ ys, ys = (moveF xs (j : Int) ato).1 := ⟨_, rfl⟩
                        have hact : actF R xs ⟨ak, aks, (j : Int), ato⟩ = (ys, ⟨#[]⟩, false) := by
                          rw [hys]
                          simp [actF, k0, k1, k2, k3, hmv]
                        have HACT := Lib.hid hact
                        have hci : ((cntOf ys a2 : Nat) : Int) = (m : Int) := by
                          rw [hys, cnt_move]; have := HMC.out; omega
                        have HCI := Lib.hid hci
                        clear hact hci hys hmv
                        as_aux_lemma =>
                          refine (do_any ⟨ak, aks, (j : Int), ato⟩ H4.out).mono ?_
                          rintro e w5 ⟨rfl, v5, hM5, F5, _⟩
                          rw [HACT.out] at hM5
                          simp only [HACT.out]
                          have H5 := Lib.hid hM5
                          have hbx5 := HX4.out.far F5 HNO.out
                          have f0 : w5.cell? ⟨wr.heap.size, 0, none⟩ = some (.int .i64 ak) := by rw [hbx5.cell]; rfl
                          have f1 : w5.cell? ⟨wr.heap.size, 1, none⟩ = some (.string aks) := by rw [hbx5.cell]; rfl
                          have hy64 : ys.length ≤ 64 := hM5.len
                          have hyR : ¬ R < ys.length := by have h : (ys.length : Int) ≤ R := hM5.2.2.2.1; omega
                          clear hbx5 hM5 F5 e0 e1 e2 e3
                          go_wp2_with fail
                          refine (count_any a2 H5.out).mono ?_
                          rintro e w6 ⟨rfl, q, rfl⟩
                          rw [HCI.out]
                          clear f0 f1
                          go_wp2_with fail
                          refine (all_any (H5.out.drewN q)).mono ?_
                          rintro e w7 ⟨c7, rfl, _, hb7⟩
                          have H7 := Lib.hid ((H5.out.drewN q).below hb7)
                          clear hb7
                          go_wp2_with fail
                          refine ⟨⟨k + 1, v5, ys, m, by go_num, by omega, by go_num, by have := HCI.out; have := cntOf_le ys a2; omega, Lib.hid (by have := HCI.out; omega), H7⟩, ?_⟩
                          simp [intOf]; omega
                      · obtain ⟨ys, hys⟩ : ∃ ys, ys = (moveF xs (j : Int) ato).1 := ⟨_, rfl⟩
                        have hact : actF R xs ⟨ak, aks, (j : Int), ato⟩ = (ys, ⟨#[]⟩, true) := by
                          rw [hys]
                          simp [actF, k0, k1, k2, k3, hmv]
                        have HACT := Lib.hid hact
                        have hci : ((cntOf ys a2 : Nat) : Int) = (m : Int) := by
                          rw [hys, cnt_move]; have := HMC.out; omega
                        have HCI := Lib.hid hci
                        clear hact hci hys hmv
                        as_aux_lemma =>
                          refine (do_any ⟨ak, aks, (j : Int), ato⟩ H4.out).mono ?_
                          rintro e w5 ⟨rfl, v5, hM5, F5, _⟩
                          rw [HACT.out] at hM5
                          simp only [HACT.out]
                          have H5 := Lib.hid hM5
                          have hbx5 := HX4.out.far F5 HNO.out
                          have f0 : w5.cell? ⟨wr.heap.size, 0, none⟩ = some (.int .i64 ak) := by rw [hbx5.cell]; rfl
                          have f1 : w5.cell? ⟨wr.heap.size, 1, none⟩ = some (.string aks) := by rw [hbx5.cell]; rfl
                          have hy64 : ys.length ≤ 64 := hM5.len
                          have hyR : ¬ R < ys.length := by have h : (ys.length : Int) ≤ R := hM5.2.2.2.1; omega
                          clear hbx5 hM5 F5 e0 e1 e2 e3
                          go_wp2_with fail
                          refine (count_any a2 H5.out).mono ?_
                          rintro e w6 ⟨rfl, q, rfl⟩
                          rw [HCI.out]
                          clear f0 f1
                          go_wp2_with fail
                          refine (all_any (H5.out.drewN q)).mono ?_
                          rintro e w7 ⟨c7, rfl, _, hb7⟩
                          have H7 := Lib.hid ((H5.out.drewN q).below hb7)
                          clear hb7
                          go_wp2_with fail
                          refine ⟨⟨k + 1, v5, ys, m, by go_num, by omega, by go_num, by have := HCI.out; have := cntOf_le ys a2; omega, Lib.hid (by have := HCI.out; omega), H7⟩, ?_⟩
                          simp [intOf]; omega
        · obtain rfl : k = l1.length := by omega
          go_wp2_with fail
          go_ret
          exact ⟨rfl, HM.out.2.2.1.1⟩
    · have i1 : (100 : Int) < (a2.size : Int) := by omega
      go_wp2_with fail
      go_ret
      exact ⟨rfl, H2.out.2.2.1.1⟩
end Go.Proofs.Ytplahkhohhbgaaa
