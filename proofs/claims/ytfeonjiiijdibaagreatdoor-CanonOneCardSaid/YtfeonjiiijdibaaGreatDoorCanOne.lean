/-
  CanonOne: the walk.
-/
import Derived.Test.YtfeonjiiijdibaaGreatDoorCanTwice
import Derived.Test.YtfeonjiiijdibaaGreatDoorCanApart
namespace Go.Proofs.YtfeonjiiijdibaaGreatDoor
open Go.RowKit Go.Proofs.Nod Go.Proofs.Can
open Go.Proofs.Mdl hiding e0
set_option linter.unusedVariables false
set_option linter.unusedSimpArgs false
theorem one_tree (x : Ent) : treeM [x] = .mk (leafN (Nib.bs (Nib.path x.k.data.toList)) x.v) [] := rfl
theorem one_nodes (x : Ent) : nodesT (treeM [x]) = [topM [x]] := by
  rw [nodesT_eq]
  unfold topM
  have h : texts (treeM [x]) = [tx (treeM [x])] := by rw [texts_eq, one_tree]; rfl
  rw [h]
  generalize tx (treeM [x]) = t
  have ho : offB [t] t = true := (offB_iff _ _).2 (.inl (List.mem_singleton.2 rfl))
  show (pick ([t], [t]) t).2 = [t]
  unfold pick
  rw [if_pos ho]
theorem one_get {x : Ent} (h : Mdl.Good [x]) : gB (topM [x]) = some (leafN (Nib.bs (Nib.path x.k.data.toList)) x.v) := by
  have hn : NdV (leafN (Nib.bs (Nib.path x.k.data.toList)) x.v) := (treeM_ok h).nd
  unfold topM
  rw [one_tree]
  show gB (putB (leafN (Nib.bs (Nib.path x.k.data.toList)) x.v)) = _
  have e : putB (leafN (Nib.bs (Nib.path x.k.data.toList)) x.v) = bytesB (leafN (Nib.bs (Nib.path x.k.data.toList)) x.v) := by unfold putB; exact if_pos hn.ok
  rw [e]
  exact back _ hn.ok hn.r16
theorem none_get : gB ⟨#[128]⟩ = some zeroN := by decide +kernel
set_option maxRecDepth 100000 in
set_option maxHeartbeats 8000000 in
theorem one_walk (w : World) (hL : LaidN w) (v0 : Value) (x : Ent) (S0 : v0 = .agg #[.string x.k, .string x.v]) :
    Calls Tryz.prog 9 #[v0] w fun e w' => e = .returned (.bool true) ∧ Below w.heap.size w w' := by
  subst S0
  have LA : Hid (∀ W, Below w.heap.size w W → LaidN W) := Lib.hid (fun W h => hL.on h)
  have WK := Lib.hid (fun W (h : LaidN W) => cworks_any W h)
  have FE := Lib.hid (fun W v (h : Es W v [x]) => cfewE_any h)
  have BX := Lib.hid ((Bl.start w).alloc (.cells #[.string x.k, .string x.v] 61))
  have KX := Lib.hid (Blk.new w 61 #[.string x.k, .string x.v])
  have NW := Lib.hid (fun W => es_new W [x] [.string x.k, .string x.v] 1 rfl rfl (by simp))
  by_cases hg : checkN [x] = 0
  case neg =>
    have TE := Lib.hid (fun W v (h : Es W v [x]) => top_err h (by simp) hg)
    generalize checkN [x] = q at *
    obtain ⟨xk, xv⟩ := x
    dsimp only at *
    obtain ⟨L, hLL⟩ : ∃ L, L = w.heap.size := ⟨_, rfl⟩
    have HLL := Lib.hid hLL
    go_enter Tryz.func9, Tryz.ntmps9
    go_upto_region 1 with (fail)
    simp only [← hLL] at LA BX KX ⊢
    clear hLL
    generalize w.alloc (.cells #[.string xk, .string xv] 61) = w0 at *
    go_upto_region 2 with (first | (go_at_call 11; refine (WK.out _ (LA.out _ BX.out.1)).mono ?_; clear WK; rintro e w1 ⟨rfl, hb⟩; have B1 := Lib.hid (BX.out.call hb); have K1 := Lib.hid (Blk.below KX.out hb); clear hb KX BX))
    have e0 := K1.out.cell 0
    have e1 := K1.out.cell 1
    simp only [List.getElem?_toArray, List.getElem?_cons_succ, List.getElem?_cons_zero] at e0 e1
    have al := (Below.refl w1.heap.size w1).alloc (Nat.le_refl _) (.cells #[.string xk, .string xv] 61)
    have E2 := Lib.hid (NW.out w1)
    have B2 := Lib.hid (B1.out.call al)
    have K2 := Lib.hid (Blk.below K1.out al)
    clear al K1 B1
    go_upto_region 4 with (fail)
    go_upto_region 5 with (first | (go_at_call 12; refine (FE.out _ _ E2.out).mono ?_; clear FE; rintro e w2 ⟨⟨bf, rfl, hbf, rfl⟩⟩; clear hbf))
    clear E2 e0 e1
    generalize w1.alloc (.cells #[.string xk, .string xv] 61) = w2 at *
    have e0 := K2.out.cell 0
    have e1 := K2.out.cell 1
    simp only [List.getElem?_toArray, List.getElem?_cons_succ, List.getElem?_cons_zero] at e0 e1
    have al := (Below.refl w2.heap.size w2).alloc (Nat.le_refl _) (.cells #[.string xk, .string xv] 61)
    have E3 := Lib.hid (NW.out w2)
    have B3 := Lib.hid (B2.out.call al)
    have K3 := Lib.hid (Blk.below K2.out al)
    clear al K2 B2
    go_upto_region 6 with (first | (go_at_call 14; refine (TE.out _ _ E3.out).mono ?_; clear TE; rintro e w4 ⟨rfl, hb⟩; have B4 := Lib.hid (B3.out.call hb); clear hb))
    clear E3 B3 K3 e0 e1
    cases bf with
    | false =>
      go_wp2_with fail
      go_ret
      exact ⟨rfl, HLL.out ▸ B4.out.1⟩
    | true =>
      go_wp2_with fail
      go_ret
      exact ⟨rfl, HLL.out ▸ B4.out.1⟩
  case pos =>
    have gg := good_iff.1 hg
    have TP := Lib.hid (fun W v (h : Es W v [x]) (hW : LaidN W) => top_ok h gg hW)
    have ND0 := fun W v (h : Es W v [x]) (hW : LaidN W) => nodes_ok h gg hW
    rw [one_nodes] at ND0
    have ND := Lib.hid ND0
    have TN0 := fun W (hW : LaidN W) => top_ok (Es.nil W) good_nil hW
    rw [cwk_none] at TN0
    have TN := Lib.hid TN0
    have GT0 := fun W (hW : LaidN W) => get_any (topM [x]) (by have := topM_size gg; omega) W hW.err
    have GN0 := fun W (hW : LaidN W) => get_any ⟨#[128]⟩ (by decide) W hW.err
    unfold Gtd at GT0 GN0
    rw [one_get gg] at GT0
    rw [none_get] at GN0
    simp only [Option.getD_some, Option.isSome_some, if_true] at GT0 GN0
    have GT := Lib.hid GT0
    have GN := Lib.hid GN0
    clear ND0 TN0 GT0 GN0 hg
    obtain ⟨CS, hCS⟩ : ∃ cs, cs = ndC (leafN (Nib.bs (Nib.path x.k.data.toList)) x.v) := ⟨_, rfl⟩
    have NC : Hid (Ndc CS) := Lib.hid (by rw [hCS]; exact .of _)
    have CS0 : Hid (CS[0]? = some (.int .i64 1)) := Lib.hid (by rw [hCS]; rfl)
    have CS1 : Hid (CS[1]? = some (.string (Nib.bs (Nib.path x.k.data.toList)))) := Lib.hid (by rw [hCS]; rfl)
    have CS2 : Hid (CS[2]? = some (.string x.v)) := Lib.hid (by rw [hCS]; rfl)
    have LP : Hid (IntKind.i64.wrap (2 * (x.k.size : Int)) = ((Nib.bs (Nib.path x.k.data.toList)).size : Int)) := Lib.hid (by
      rw [Nib.bs_size, Nib.path_length]
      have hk : x.k.size ≤ 1000 := by have h := gg.ok x (List.mem_singleton.2 rfl); unfold entOk keyOk at h; simp only [Bool.and_eq_true, decide_eq_true_eq] at h; omega
      rw [IntWalk.i64_in _ (by omega)]
      have : x.k.data.toList.length = x.k.size := Array.length_toList
      omega)
    rw [← hCS] at GT
    obtain ⟨Z0, hZ0⟩ : ∃ z, z = ndC zeroN := ⟨_, rfl⟩
    have NZ : Hid (Ndc Z0) := Lib.hid (by rw [hZ0]; exact .of _)
    have Z00 : Hid (Z0[0]? = some (.int .i64 0)) := Lib.hid (by rw [hZ0]; rfl)
    have HZ0 := Lib.hid hZ0
    rw [← hZ0] at GN
    clear gg hCS hZ0
    obtain ⟨xk, xv⟩ := x
    dsimp only at *
    generalize Nib.bs (Nib.path xk.data.toList) = P at *
    generalize topM [⟨xk, xv⟩] = T at *
    obtain ⟨L, hLL⟩ : ∃ L, L = w.heap.size := ⟨_, rfl⟩
    have HLL := Lib.hid hLL
    go_enter Tryz.func9, Tryz.ntmps9
    go_upto_region 1 with (fail)
    simp only [← hLL] at LA BX KX ⊢
    clear hLL
    generalize w.alloc (.cells #[.string xk, .string xv] 61) = w0 at *
    go_upto_region 2 with (first | (go_at_call 11; refine (WK.out _ (LA.out _ BX.out.1)).mono ?_; clear WK; rintro e w1 ⟨rfl, hb⟩; have B1 := Lib.hid (BX.out.call hb); have K1 := Lib.hid (Blk.below KX.out hb); clear hb KX BX))
    have e0 := K1.out.cell 0
    have e1 := K1.out.cell 1
    simp only [List.getElem?_toArray, List.getElem?_cons_succ, List.getElem?_cons_zero] at e0 e1
    have al := (Below.refl w1.heap.size w1).alloc (Nat.le_refl _) (.cells #[.string xk, .string xv] 61)
    have E2 := Lib.hid (NW.out w1)
    have B2 := Lib.hid (B1.out.call al)
    have K2 := Lib.hid (Blk.below K1.out al)
    clear al K1 B1
    go_upto_region 4 with (fail)
    go_upto_region 5 with (first | (go_at_call 12; refine (FE.out _ _ E2.out).mono ?_; clear FE; rintro e w2 ⟨⟨bf, rfl, hbf, rfl⟩⟩; clear hbf))
    clear E2 e0 e1
    generalize w1.alloc (.cells #[.string xk, .string xv] 61) = w2 at *
    have e0 := K2.out.cell 0
    have e1 := K2.out.cell 1
    simp only [List.getElem?_toArray, List.getElem?_cons_succ, List.getElem?_cons_zero] at e0 e1
    have al := (Below.refl w2.heap.size w2).alloc (Nat.le_refl _) (.cells #[.string xk, .string xv] 61)
    have E3 := Lib.hid (NW.out w2)
    have B3 := Lib.hid (B2.out.call al)
    have K3 := Lib.hid (Blk.below K2.out al)
    clear al K2 B2
    go_upto_region 6 with (first | (go_at_call 14; refine (TP.out _ _ E3.out (LA.out _ B3.out.1)).mono ?_; clear TP; rintro e w4 ⟨rfl, hb⟩; have B4 := Lib.hid (B3.out.call hb); have K4 := Lib.hid (Blk.below K3.out hb); clear hb))
    clear E3 B3 K3 e0 e1
    cases bf with
    | false =>
      go_wp2_with fail
      go_ret
      exact ⟨rfl, HLL.out ▸ B4.out.1⟩
    | true =>
      go_upto_region 8 with (fail)
      go_upto_region 9 with (first
        | (go_at_call 33; refine (GT.out _ (LA.out _ B4.out.1)).mono ?_; clear GT; rintro e w5 ⟨rfl, hb5⟩;
           have bl := (Bl.setRow ((Bl.start w5).alloc (.cells Z0 51)) (g := w5.heap.size) (Nat.le_refl _) CS).1;
           have A5 := Lib.hid (Blk.new w5 51 Z0); have X5 := Lib.hid ((Blk.new w5 51 Z0).row (cs := CS));
           have B5 := Lib.hid (B4.out.call (hb5.trans (bl.mono hb5.size))); have K5 := Lib.hid (Blk.below (Blk.below K4.out hb5) bl); clear hb5 bl)
        | (refine wpList_alloc_nd rfl (some 7) rfl rfl Z0 HZ0.out w5.heap.size rfl ?_)
        | (refine wpList_store_nd rfl (.tmp 7) (.tmp 37) rfl rfl w5.heap.size CS rfl rfl 51 Z0 A5.out NC.out NZ.out ?_; clear A5;
           generalize (w5.alloc (.cells Z0 51)).setRow w5.heap.size CS = w6 at *; generalize w5.heap.size = m at *))
      clear B4 K4
      have e0 := K5.out.cell 0
      have e1 := K5.out.cell 1
      simp only [List.getElem?_toArray, List.getElem?_cons_succ, List.getElem?_cons_zero] at e0 e1
      have al := (Below.refl w6.heap.size w6).alloc (Nat.le_refl _) (.cells #[.string xk, .string xv] 61)
      have E6 := Lib.hid (NW.out w6)
      have B6 := Lib.hid (B5.out.call al)
      have K6 := Lib.hid (Blk.below K5.out al)
      have X6 := Lib.hid (Blk.below X5.out al)
      clear al K5 B5 X5
      go_upto_region 10 with (first
        | (go_at_call 16; refine (ND.out _ _ E6.out (LA.out _ B6.out.1)).mono ?_; clear ND; rintro e w7 ⟨v7, rfl, hown, hb⟩; obtain ⟨A7, c7, hv7⟩ := own_shape hown; subst hv7;
           have B7 := Lib.hid (B6.out.call hb); have K7 := Lib.hid (Blk.below K6.out hb); have X7 := Lib.hid (Blk.below X6.out hb); clear hb hown))
      clear E6 B6 K6 X6 e0 e1
      go_upto_region 11 with (first
        | (go_at_call 14; refine (TN.out _ (LA.out _ B7.out.1)).mono ?_; clear TN; rintro e w8 ⟨rfl, hb⟩;
           have B8 := Lib.hid (B7.out.call hb); have K8 := Lib.hid (Blk.below K7.out hb); have X8 := Lib.hid (Blk.below X7.out hb); clear hb))
      clear B7 K7 X7
      go_upto_region 12 with (first
        | (go_at_call 33; refine (GN.out _ (LA.out _ B8.out.1)).mono ?_; clear GN; rintro e w9 ⟨rfl, hb9⟩;
           have bl := (Bl.setRow ((Bl.start w9).alloc (.cells Z0 51)) (g := w9.heap.size) (Nat.le_refl _) Z0).1;
           have A9 := Lib.hid (Blk.new w9 51 Z0); have Y9 := Lib.hid ((Blk.new w9 51 Z0).row (cs := Z0));
           have B9 := Lib.hid (B8.out.call (hb9.trans (bl.mono hb9.size))); have K9 := Lib.hid (Blk.below (Blk.below K8.out hb9) bl); have X9 := Lib.hid (Blk.below (Blk.below X8.out hb9) bl); clear hb9 bl)
        | (refine wpList_alloc_nd rfl (some 13) rfl rfl Z0 HZ0.out w9.heap.size rfl ?_)
        | (refine wpList_store_nd rfl (.tmp 13) (.tmp 52) rfl rfl w9.heap.size Z0 rfl rfl 51 Z0 A9.out NZ.out NZ.out ?_; clear A9;
           generalize (w9.alloc (.cells Z0 51)).setRow w9.heap.size Z0 = w10 at *; generalize w9.heap.size = m2 at *))
      clear B8 K8 X8
      have e0 := K9.out.cell 0
      have e1 := K9.out.cell 1
      simp only [List.getElem?_toArray, List.getElem?_cons_succ, List.getElem?_cons_zero] at e0 e1
      have x0 := (X9.out.cell 0).trans CS0.out
      have x1 := (X9.out.cell 1).trans CS1.out
      have x2 := (X9.out.cell 2).trans CS2.out
      have y0 := (Y9.out.cell 0).trans Z00.out
      have lp := LP.out
      clear K9 X9 Y9
      go_wp2_with fail
      go_ret
      exact ⟨rfl, HLL.out ▸ B9.out.1⟩
end Go.Proofs.YtfeonjiiijdibaaGreatDoor
