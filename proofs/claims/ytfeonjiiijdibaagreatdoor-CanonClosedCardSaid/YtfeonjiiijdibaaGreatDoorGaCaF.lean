/-
  Merged: CanWkP, CanFind, CanFew, CanWorks.
-/
import Derived.Test.YtfeonjiiijdibaaGreatDoorCanClash
import Derived.Test.YtfeonjiiijdibaaGreatDoorGaMdC
import Derived.Test.YtfeonjiiijdibaaGreatDoorGaMdB
import Derived.Handy
import Derived.Test.YtfeonjiiijdibaaGreatDoorGaMdA
import Derived.LoopIn
import Derived.Test.YtfeonjiiijdibaaGreatDoorGaNibM
namespace Go.Proofs.YtfeonjiiijdibaaGreatDoor
open Go.RowKit Go.Proofs.Nod Go.Proofs.Can
open Go.Proofs.Mdl hiding e0
set_option linter.unusedVariables false
set_option linter.unusedSimpArgs false
def kA : ByteArray := ⟨#[97]⟩
def kB : ByteArray := ⟨#[98]⟩
def wl : List Ent := [⟨⟨#[97]⟩, ⟨#[120]⟩⟩, ⟨⟨#[98]⟩, ⟨#[121]⟩⟩]
def wm : List Ent := [⟨⟨#[98]⟩, ⟨#[121]⟩⟩]
def wd : List Chg := [⟨⟨#[97]⟩, ⟨#[]⟩, true⟩]
theorem cwk_good : Mdl.Good wl := good_iff.1 (by decide +kernel)
theorem cwk_goodm : Mdl.Good wm := good_iff.1 (by decide +kernel)
theorem cwk_check : checkN wl = 0 := by decide +kernel
theorem cwk_bad : checkN [⟨⟨#[]⟩, ⟨#[]⟩⟩] = 1 := by decide +kernel
theorem cwk_apply : applyM wl wd = (wm, 0) := by decide +kernel
theorem cwk_find : getE wl ⟨#[98]⟩ = some ⟨#[121]⟩ := by decide +kernel
theorem cwk_diff : diffM wl wm = wd := by decide +kernel
theorem cwk_nodes : nodesT (treeM wl) = [topM wl] := by decide +kernel
theorem cwk_none : topM [] = ⟨#[128]⟩ := by decide +kernel
theorem cwk_get : (gB (topM wl)).map (·.kind) = some 2 := by decide +kernel
theorem cwk_roots : ¬ shaB (topM wl) = shaB (topM wm) := by decide +kernel
theorem cwk_clash : clashM wl wm = none := by
  unfold clashM
  rw [if_neg (by decide), if_neg cwk_roots]
end Go.Proofs.YtfeonjiiijdibaaGreatDoor
namespace Go.Proofs.YtfeonjiiijdibaaGreatDoor
open Go.RowKit Go.Proofs.Mdl
set_option linter.unusedVariables false
set_option linter.unusedSimpArgs false
theorem bytes_eqF {X T : ByteArray} : (X.toList == T.toList) = decide (X = T) := by
  rw [Lib.toList_data, Lib.toList_data]
  by_cases h : X = T
  · subst h; simp
  · rw [decide_eq_false h]
    simp only [beq_eq_false_iff_ne]
    exact fun e => h (ByteArray.ext (Array.toList_inj.1 e))
theorem getE_take {l : List Ent} {k : Nat} {e : Ent} {key : ByteArray} (h : l[k]? = some e) (hn : getE (l.take k) key = none) : getE l key = (if e.k = key then some e.v else getE (l.drop (k + 1)) key) ∧ (¬ e.k = key → getE (l.take (k + 1)) key = none) := by
  induction l generalizing k with
  | nil => simp at h
  | cons x r ih =>
    cases k with
    | zero =>
      simp only [List.getElem?_cons_zero, Option.some.injEq] at h
      subst h
      refine ⟨rfl, fun hne => ?_⟩
      show (if x.k = key then some x.v else getE (r.take 0) key) = none
      rw [if_neg hne]
      rfl
    | succ k =>
      have hn' : (if x.k = key then some x.v else getE (r.take k) key) = none := hn
      by_cases hx : x.k = key
      · rw [if_pos hx] at hn'; cases hn'
      · rw [if_neg hx] at hn'
        obtain ⟨h1, h2⟩ := ih (by simpa using h) hn'
        refine ⟨?_, fun hne => ?_⟩
        · show (if x.k = key then some x.v else getE r key) = _
          rw [if_neg hx, h1]
          rfl
        · show (if x.k = key then some x.v else getE (r.take (k + 1)) key) = none
          rw [if_neg hx]
          exact h2 hne
def findV : Option ByteArray → Value
  | some v => .tuple #[.string v, .bool true]
  | none => .tuple #[.string ⟨#[]⟩, .bool false]
set_option maxRecDepth 100000 in
set_option maxHeartbeats 2000000 in
theorem find_any {w : World} {v : Value} {l : List Ent} (h : Es w v l) (hl : l.length ≤ 1000) (key : ByteArray) :
    Calls Tryz.prog 25 #[v, .string key] w fun e w' => e = .returned (findV (getE l key)) ∧ Below w.heap.size w w' := by
  obtain ⟨A, c, rfl⟩ := h.shape
  obtain ⟨z, hz⟩ : ∃ z, z = l.length := ⟨_, rfl⟩
  rw [← hz] at h hl ⊢
  have HE := Lib.hid h
  have HN := Lib.hid hz
  clear h hz
  go_enter Tryz.func25, Tryz.ntmps25
  go_wp2_with fail
  go_loopw [10] (fun vi wr => ∃ k : Nat, vi = .int .i64 (k : Int) ∧ k ≤ z ∧ Hid (Below w.heap.size w wr) ∧ Hid (getE (l.take k) key = none)) (fun vi _ => z - (intOf vi).toNat)
  case atStart => exact ⟨0, rfl, Nat.zero_le _, Lib.hid (Below.refl _ _), Lib.hid rfl⟩
  case round =>
    obtain ⟨k, rfl, hk, HB, NO⟩ := hrel
    by_cases hlt : k < z
    · obtain ⟨x, hx⟩ : ∃ x, l[k]? = some x := ⟨_, List.getElem?_eq_getElem (by rw [← HN.out]; exact hlt)⟩
      obtain ⟨b, o, c', hv, hbl, d0, d1⟩ := (HE.out.below HB.out).at_ hx
      simp only [Value.slice.injEq] at hv
      obtain ⟨rfl, -, -⟩ := hv
      have GT := Lib.hid (getE_take hx NO.out)
      have BX := Lib.hid (HB.out.alloc HB.out.size (.cells #[.string x.k, .string x.v] 61))
      have i1 : (k : Int) < (z : Int) := by omega
      have wk : IntKind.i64.wrap ((k : Int) + 1) = (k : Int) + 1 := IntWalk.i64_in _ (by omega)
      obtain ⟨ek, ev⟩ := x
      simp only at d0 d1 GT BX
      clear hx
      by_cases he : ek = key
      · have be : (ek.toList == key.toList) = true := by rw [bytes_eqF]; exact decide_eq_true he
        have HF : Hid (getE l key = some ev) := Lib.hid (by rw [GT.out.1, if_pos he])
        clear he
        go_wp2_with fail
        go_ret2
        exact ⟨by rw [HF.out]; rfl, BX.out⟩
      · have be : (ek.toList == key.toList) = false := by rw [bytes_eqF]; exact decide_eq_false he
        have HF := Lib.hid (GT.out.2 he)
        clear he
        go_wp2_with fail
        exact ⟨⟨k + 1, rfl, hlt, BX, HF⟩, by simp [intOf]; omega⟩
    · have i1 : ¬ (k : Int) < (z : Int) := by omega
      obtain rfl : k = z := by omega
      have NO2 : Hid (getE l key = none) := Lib.hid (by have := NO.out; rwa [HN.out, List.take_length] at this)
      go_wp2_with fail
      go_ret2
      exact ⟨by rw [NO2.out]; rfl, HB.out⟩
end Go.Proofs.YtfeonjiiijdibaaGreatDoor
namespace Go.Proofs.YtfeonjiiijdibaaGreatDoor
open Go.RowKit Go.Proofs.Mdl
set_option linter.unusedVariables false
set_option linter.unusedSimpArgs false
/-- A Boolean: where it is true, Q; nothing turns. -/
structure CFew (Q : Prop) (w : World) (e : Ending) (w' : World) : Prop where
  out : ∃ b, e = .returned (.bool b) ∧ (b = true → Q) ∧ w' = w
set_option maxRecDepth 100000 in
set_option maxHeartbeats 2000000 in
theorem cfewC_any {w : World} {v : Value} {cs : List Chg} (h : Cs w v cs) :
    Calls Tryz.prog 22 #[v] w (CFew (cs.length ≤ 45) w) := by
  obtain ⟨A, c, rfl⟩ := h.shape
  obtain ⟨z, hz⟩ : ∃ z, z = cs.length := ⟨_, rfl⟩
  rw [← hz] at h ⊢
  have HN := Lib.hid hz
  have HE := Lib.hid h
  clear h hz
  go_enter Tryz.func22, Tryz.ntmps22
  go_wp2_with fail
  go_loopw [3] (fun vi wr => ∃ k : Nat, vi = .int .i64 (k : Int) ∧ k ≤ z ∧ k ≤ 46 ∧ Hid (wr = w)) (fun vi _ => 46 - (intOf vi).toNat)
  case atStart => exact ⟨0, rfl, Nat.zero_le _, Nat.zero_le _, Lib.hid rfl⟩
  case round =>
    obtain ⟨k, rfl, hk, h46, HW⟩ := hrel
    obtain rfl := HW.out
    clear HW
    by_cases hlt : k < z
    · by_cases h45 : k ≤ 45
      · obtain ⟨x, hx⟩ : ∃ x, cs[k]? = some x := ⟨_, List.getElem?_eq_getElem (by rw [← HN.out]; exact hlt)⟩
        obtain ⟨b, o, c', hv, hbl, d0, d1, d2⟩ := HE.out.at_ hx
        simp only [Value.slice.injEq] at hv
        obtain ⟨rfl, -, -⟩ := hv
        have i1 : (k : Int) < (z : Int) := by omega
        have i2 : (k : Int) ≤ 45 := by omega
        have wk : IntKind.i64.wrap ((k : Int) + 1) = (k : Int) + 1 := IntWalk.i64_in _ (by omega)
        clear hx
        go_wp2_with fail
        case roundEnd => exact ⟨⟨k + 1, rfl, hlt, by omega, Lib.hid trivial⟩, by simp [intOf]; omega⟩
        all_goals
          go_ret
          exact ⟨⟨false, rfl, (fun h => by cases h), rfl⟩⟩
      · have i1 : (k : Int) < (z : Int) := by omega
        have i2 : ¬ (k : Int) ≤ 45 := by omega
        have i3 : ¬ (z : Int) ≤ 45 := by omega
        go_wp2_with fail
        go_ret
        exact ⟨⟨false, rfl, (fun h => by cases h), rfl⟩⟩
    · have i1 : ¬ (k : Int) < (z : Int) := by omega
      go_wp2_with fail
      go_ret
      exact ⟨⟨decide ((z : Int) ≤ 45), rfl, (fun h => by have := of_decide_eq_true h; have := HN.out; omega), rfl⟩⟩
set_option maxRecDepth 100000 in
set_option maxHeartbeats 2000000 in
theorem cfewE_any {w : World} {v : Value} {cs : List Ent} (h : Es w v cs) :
    Calls Tryz.prog 12 #[v] w (CFew (cs.length ≤ 45) w) := by
  obtain ⟨A, c, rfl⟩ := h.shape
  obtain ⟨z, hz⟩ : ∃ z, z = cs.length := ⟨_, rfl⟩
  rw [← hz] at h ⊢
  have HN := Lib.hid hz
  have HE := Lib.hid h
  clear h hz
  go_enter Tryz.func12, Tryz.ntmps12
  go_wp2_with fail
  go_loopw [3] (fun vi wr => ∃ k : Nat, vi = .int .i64 (k : Int) ∧ k ≤ z ∧ k ≤ 46 ∧ Hid (wr = w)) (fun vi _ => 46 - (intOf vi).toNat)
  case atStart => exact ⟨0, rfl, Nat.zero_le _, Nat.zero_le _, Lib.hid rfl⟩
  case round =>
    obtain ⟨k, rfl, hk, h46, HW⟩ := hrel
    obtain rfl := HW.out
    clear HW
    by_cases hlt : k < z
    · by_cases h45 : k ≤ 45
      · obtain ⟨x, hx⟩ : ∃ x, cs[k]? = some x := ⟨_, List.getElem?_eq_getElem (by rw [← HN.out]; exact hlt)⟩
        obtain ⟨b, o, c', hv, hbl, d0, d1⟩ := HE.out.at_ hx
        simp only [Value.slice.injEq] at hv
        obtain ⟨rfl, -, -⟩ := hv
        have i1 : (k : Int) < (z : Int) := by omega
        have i2 : (k : Int) ≤ 45 := by omega
        have wk : IntKind.i64.wrap ((k : Int) + 1) = (k : Int) + 1 := IntWalk.i64_in _ (by omega)
        clear hx
        go_wp2_with fail
        case roundEnd => exact ⟨⟨k + 1, rfl, hlt, by omega, Lib.hid trivial⟩, by simp [intOf]; omega⟩
        all_goals
          go_ret
          exact ⟨⟨false, rfl, (fun h => by cases h), rfl⟩⟩
      · have i1 : (k : Int) < (z : Int) := by omega
        have i2 : ¬ (k : Int) ≤ 45 := by omega
        have i3 : ¬ (z : Int) ≤ 45 := by omega
        go_wp2_with fail
        go_ret
        exact ⟨⟨false, rfl, (fun h => by cases h), rfl⟩⟩
    · have i1 : ¬ (k : Int) < (z : Int) := by omega
      go_wp2_with fail
      go_ret
      exact ⟨⟨decide ((z : Int) ≤ 45), rfl, (fun h => by have := of_decide_eq_true h; have := HN.out; omega), rfl⟩⟩
end Go.Proofs.YtfeonjiiijdibaaGreatDoor
namespace Go.Proofs.YtfeonjiiijdibaaGreatDoor
open Go.RowKit Go.Proofs.Nod Go.Proofs.Can
open Go.Proofs.Mdl hiding e0
set_option linter.unusedVariables false
set_option linter.unusedSimpArgs false
theorem es_new (w : World) (l : List Ent) (xs : List Value) (n : Nat) (h : flatE l = xs) (hn : n = l.length) (hl : l ≠ []) : Es (w.alloc (.cells xs.toArray 61)) (.slice (some ⟨w.heap.size, 0, none⟩) n n) l := by
  subst h; subst hn
  exact ⟨_, _, rfl, Nat.le_refl _, .inr ⟨w.heap.size, 0, rfl, by simp, fun j x hj => new_cells w 61 (flatE l) j x hj⟩⟩
theorem cs_new (w : World) (l : List Chg) (xs : List Value) (n : Nat) (h : flatC l = xs) (hn : n = l.length) (hl : l ≠ []) : Cs (w.alloc (.cells xs.toArray 58)) (.slice (some ⟨w.heap.size, 0, none⟩) n n) l := by
  subst h; subst hn
  exact ⟨_, _, rfl, Nat.le_refl _, .inr ⟨w.heap.size, 0, rfl, by simp, fun j x hj => new_cells w 58 (flatC l) j x hj⟩⟩
set_option maxRecDepth 100000 in
set_option maxHeartbeats 8000000 in
theorem cworks_any (w : World) (hL : LaidN w) : Calls Tryz.prog 11 #[] w fun e w' => e = .returned (.bool true) ∧ Below w.heap.size w w' := by
  have LA : Hid (∀ W, Below w.heap.size w W → LaidN W) := Lib.hid (fun W h => hL.on h)
  clear hL
  obtain ⟨n2, hn2, hk2⟩ : ∃ n, gB (topM wl) = some n ∧ n.kind = 2 := by
    have := cwk_get
    cases h : gB (topM wl) with
    | none => rw [h] at this; cases this
    | some n => rw [h] at this; exact ⟨n, rfl, Option.some.inj this⟩
  have GT0 := fun W (hW : LaidN W) => get_any (topM wl) (by have := topM_size cwk_good; omega) W hW.err
  unfold Gtd at GT0
  rw [hn2] at GT0
  simp only [Option.getD_some, Option.isSome_some, if_true] at GT0
  have GT := Lib.hid GT0
  have TP0 := fun W v (h : Es W v wl) (hW : LaidN W) => top_ok h cwk_good hW
  have TP := Lib.hid TP0
  have RN := Lib.hid (fun W (hW : LaidN W) => root_ok (Es.nil W) good_nil hW)
  have RL := Lib.hid (fun W v (h : Es W v wl) (hW : LaidN W) => root_ok h cwk_good hW)
  have ND0 := fun W v (h : Es W v wl) (hW : LaidN W) => nodes_ok h cwk_good hW
  rw [cwk_nodes] at ND0
  have ND := Lib.hid ND0
  have AP0 := fun W vl vc (h1 : Es W vl wl) (h2 : Cs W vc wd) => apply_any h1 h2 (by decide) (by decide)
  rw [cwk_apply] at AP0
  dsimp only at AP0
  have AP := Lib.hid AP0
  have FD0 := fun W v (h : Es W v wl) => find_any h (by decide) ⟨#[98]⟩
  rw [cwk_find] at FD0
  dsimp only [findV] at FD0
  have FD := Lib.hid FD0
  have DF0 := fun W va vb (h1 : Es W va wl) (h2 : Es W vb wm) => diff_any h1 h2 (by decide) (by decide)
  rw [cwk_diff] at DF0
  have DF := Lib.hid DF0
  have CL0 := fun W va vb (h1 : Es W va wl) (h2 : Es W vb wm) (hW : LaidN W) => clash_ok h1 h2 cwk_good cwk_goodm hW
  rw [cwk_clash] at CL0
  dsimp only [firstV] at CL0
  have CL := Lib.hid CL0
  have CK0 := fun W v (h : Es W v wl) => check_any h (by decide)
  rw [cwk_check] at CK0
  have CK := Lib.hid CK0
  have CB0 := fun W v (h : Es W v [⟨⟨#[]⟩, ⟨#[]⟩⟩]) => check_any h (by decide)
  rw [cwk_bad] at CB0
  have CB := Lib.hid CB0
  have OF := Lib.hid (fun (x : ByteArray) W b (hx : x.size ≤ 1000) (hW : LaidN W) (hB : Blk W b 9 #[.string x]) => of_one x b W hW.sha (by omega) hB)
  have TZ : Hid ((topM wl).size ≤ 1000) := Lib.hid (by have := topM_size cwk_good; omega)
  rw [cwk_none] at RN
  generalize topM wl = T at *
  obtain ⟨CS, hCS⟩ : ∃ cs, cs = ndC n2 := ⟨_, rfl⟩
  have NC : Hid (Ndc CS) := Lib.hid (by rw [hCS]; exact .of _)
  have CS0 : Hid (CS[0]? = some (.int .i64 2)) := Lib.hid (by rw [hCS]; show some (Value.int .i64 n2.kind) = _; rw [hk2])
  rw [← hCS] at GT
  obtain ⟨Z0, hZ0⟩ : ∃ z, z = ndC zeroN := ⟨_, rfl⟩
  have NZ : Hid (Ndc Z0) := Lib.hid (by rw [hZ0]; exact .of _)
  have HZ0 := Lib.hid hZ0
  clear hn2 hk2 GT0 TP0 ND0 AP0 FD0 DF0 CL0 CK0 CB0 hCS hZ0
  go_enter Tryz.func11, Tryz.ntmps11
  go_upto_region 2 with (fail)
  have B1 := Lib.hid ((Bl.start w).alloc (.cells #[.string ⟨#[97]⟩, .string ⟨#[120]⟩, .string ⟨#[98]⟩, .string ⟨#[121]⟩] 61))
  have EL := Lib.hid (es_new w wl [.string ⟨#[97]⟩, .string ⟨#[120]⟩, .string ⟨#[98]⟩, .string ⟨#[121]⟩] 2 rfl rfl (by decide))
  generalize w.alloc (.cells #[.string ⟨#[97]⟩, .string ⟨#[120]⟩, .string ⟨#[98]⟩, .string ⟨#[121]⟩] 61) = w1 at *
  obtain ⟨L, hLL⟩ : ∃ L, L = w.heap.size := ⟨_, rfl⟩
  simp only [← hLL] at B1 EL LA ⊢
  have HLL := Lib.hid hLL
  clear hLL
  go_upto_region 3 with (first | (go_at_call 15; refine (RN.out _ (LA.out _ B1.out.1)).mono ?_; rintro e w2 ⟨rfl, hb2⟩; have B2 := Lib.hid (B1.out.call hb2); have E2 := Lib.hid (EL.out.below hb2); clear hb2))
  clear B1 EL RN
  go_upto_region 4 with (first | (go_at_call 14; refine (TP.out _ _ E2.out (LA.out _ B2.out.1)).mono ?_; rintro e w3 ⟨rfl, hb3⟩; have B3 := Lib.hid (B2.out.call hb3); have E3 := Lib.hid (E2.out.below hb3); clear hb3))
  clear B2 E2 TP
  go_upto_region 5 with (first | (go_at_call 15; refine (RL.out _ _ E3.out (LA.out _ B3.out.1)).mono ?_; rintro e w4 ⟨rfl, hb4⟩; have B4 := Lib.hid (B3.out.call hb4); have E4 := Lib.hid (E3.out.below hb4); clear hb4))
  clear B3 E3 RL
  go_upto_region 6 with (first | (go_at_call 16; refine (ND.out _ _ E4.out (LA.out _ B4.out.1)).mono ?_; rintro e w5 ⟨v5, rfl, hown, hb5⟩; obtain ⟨A5, c5, hv5⟩ := own_shape hown; have S5 := Lib.hid (Sl.of_own hown); subst hv5; have B5 := Lib.hid (B4.out.call hb5); have E5 := Lib.hid (E4.out.below hb5); clear hb5 hown))
  clear B4 E4 ND
  have al5 : Below w5.heap.size w5 (w5.alloc (.cells #[.string ⟨#[97]⟩, .string ⟨#[]⟩, .bool true] 58)) := (Below.refl _ _).alloc (Nat.le_refl _) _
  have C5 := Lib.hid (cs_new w5 wd [.string ⟨#[97]⟩, .string ⟨#[]⟩, .bool true] 1 rfl rfl (by decide))
  have E5b := Lib.hid (E5.out.below al5)
  have S5b := Lib.hid (S5.out.below al5)
  have B5b := Lib.hid (B5.out.call al5)
  clear al5
  go_upto_region 7 with (first | (go_at_call 23; refine (AP.out _ _ _ E5b.out C5.out).mono ?_; rintro e w6 ⟨v6, rfl, hes, hb6⟩; have M6 := Lib.hid hes.toEs; obtain ⟨A6, c6, hv6⟩ := hes.toEs.shape; subst hv6; have B6 := Lib.hid (B5b.out.call hb6); have E6 := Lib.hid (E5b.out.below hb6); have S6 := Lib.hid (S5b.out.below hb6); clear hb6 hes))
  clear B5 E5 S5 B5b E5b S5b C5 AP
  go_upto_region 8 with (first | (go_at_call 25; refine (FD.out _ _ E6.out).mono ?_; rintro e w7 ⟨rfl, hb7⟩; have B7 := Lib.hid (B6.out.call hb7); have E7 := Lib.hid (E6.out.below hb7); have S7 := Lib.hid (S6.out.below hb7); have M7 := Lib.hid (M6.out.below hb7); clear hb7))
  clear B6 E6 S6 M6 FD
  go_upto_region 9 with (first | (go_at_call 29; refine (DF.out _ _ _ E7.out M7.out).mono ?_; rintro e w8 ⟨v8, rfl, hcs, hb8⟩; have D8 := Lib.hid hcs.toCs; obtain ⟨A8, c8, hv8⟩ := hcs.toCs.shape; subst hv8; have B8 := Lib.hid (B7.out.call hb8); have E8 := Lib.hid (E7.out.below hb8); have S8 := Lib.hid (S7.out.below hb8); have M8 := Lib.hid (M7.out.below hb8); clear hb8 hcs))
  clear B7 E7 S7 M7 DF
  go_upto_region 10 with (first | (go_at_call 31; refine (CL.out _ _ _ E8.out M8.out (LA.out _ B8.out.1)).mono ?_; rintro e w9 ⟨rfl, hb9⟩; have B9 := Lib.hid (B8.out.call hb9); have E9 := Lib.hid (E8.out.below hb9); have S9 := Lib.hid (S8.out.below hb9); have D9 := Lib.hid (D8.out.below hb9); clear hb9))
  clear B8 E8 S8 M8 D8 CL
  change Hid (Sl w9 (.slice A5 1 c5) [T]) at S9
  change Hid (Cs w9 (.slice A8 1 c8) wd) at D9
  rw [show wm.length = 1 from rfl, show wd.length = 1 from rfl]
  go_wp2_with (first
    | (go_at_call 33; refine (GT.out _ (LA.out _ B9.out.1)).mono ?_; clear GT; rintro e w10 ⟨rfl, hb10⟩;
       have bl := (Bl.setRow ((Bl.start w10).alloc (.cells Z0 51)) (g := w10.heap.size) (Nat.le_refl _) CS).1;
       have A10 := Lib.hid (Blk.new w10 51 Z0); have X10 := Lib.hid ((Blk.new w10 51 Z0).row (cs := CS));
       have B10 := Lib.hid (B9.out.call (hb10.trans (bl.mono hb10.size))); have E10 := Lib.hid ((E9.out.below hb10).below bl); have S10 := Lib.hid ((S9.out.below hb10).below bl); have D10 := Lib.hid ((D9.out.below hb10).below bl); clear hb10 bl)
    | (refine wpList_alloc_nd rfl (some 18) rfl rfl Z0 HZ0.out w10.heap.size rfl ?_)
    | (refine wpList_store_nd rfl (.tmp 18) (.tmp 67) rfl rfl w10.heap.size CS rfl rfl 51 Z0 A10.out NC.out NZ.out ?_; clear A10;
       generalize (w10.alloc (.cells Z0 51)).setRow w10.heap.size CS = w11 at *; generalize w10.heap.size = m at *;
       have CV := conv_one w11 128 128 rfl; have KA := Lib.hid (blk_new2 w11 9 #[.string ⟨#[128]⟩] (.cells #[.int .u8 128] 5));
       have bl := ((Below.refl w11.heap.size w11).alloc (Nat.le_refl _) (.cells #[.int .u8 128] 5)).alloc (by simp) (.cells #[.string ⟨#[128]⟩] 9);
       have B11 := Lib.hid (B10.out.call bl); have BLK := Lib.hid bl; clear bl)
    | (go_at_call 34; refine (OF.out ⟨#[128]⟩ _ _ (by decide) (LA.out _ B11.out.1) KA.out).mono ?_; clear KA CV; rintro e w12 ⟨rfl, hb12⟩;
       have bl := BLK.out.trans (hb12.mono BLK.out.size); have X12 := Lib.hid (X10.out.below bl); have B12 := Lib.hid (B10.out.call bl); have E12 := Lib.hid (E10.out.below bl); have S12 := Lib.hid (S10.out.below bl); have D12 := Lib.hid (D10.out.below bl);
       have KB := Lib.hid (Blk.new w12 9 #[.string T]); have al := (Below.refl w12.heap.size w12).alloc (Nat.le_refl _) (.cells #[.string T] 9); have AL := Lib.hid al; have B12b := Lib.hid (B12.out.call al); clear bl hb12 al BLK B11 X10 B10 E10 S10 D10)
    | (go_at_call 34; refine (OF.out T _ _ TZ.out (LA.out _ B12b.out.1) KB.out).mono ?_; clear KB; rintro e w13 ⟨rfl, hb13⟩;
       have bl := AL.out.trans (hb13.mono AL.out.size); have X13 := X12.out.below bl; have B13 := Lib.hid (B12.out.call bl); have E13 := Lib.hid (E12.out.below bl); have S13 := S12.out.below bl; have D13 := D12.out.below bl;
       (obtain ⟨A5', c5', hv5, hs5⟩ := S13.shape); (obtain ⟨b5, o5, h5, p5, q5⟩ := hs5.at_ 0 (by simp));
       (simp only [Value.slice.injEq] at hv5); (obtain ⟨rfl, -, rfl⟩ := hv5); subst h5;
       (simp only [Nat.add_zero, List.getElem_cons_zero] at q5);
       (obtain ⟨b8, o8, c8', hv8, p8, d80, d81, d82⟩ := D13.at_ (k := 0) rfl); (simp only [Value.slice.injEq] at hv8); (obtain ⟨rfl, -, rfl⟩ := hv8);
       (simp only [Nat.mul_zero, Nat.add_zero, Nat.zero_mul] at d82);
       have k13 := (X13.cell 0).trans CS0.out; (clear S13 D13 X13 hs5 d80 d81 p5 p8 X12 S12 D12 E12 B12 B12b); clear bl hb13 AL)
    | (go_at_call 17; (first
       | (refine (CK.out _ _ E13.out).mono ?_; rintro e w14 ⟨rfl, hb14⟩; have EN := Lib.hid (es_new w14 [⟨⟨#[]⟩,⟨#[]⟩⟩] [.string ⟨#[]⟩,.string ⟨#[]⟩] 1 rfl rfl (by decide));
          have al14 := (Below.refl w14.heap.size w14).alloc (Nat.le_refl _) (.cells #[.string ⟨#[]⟩,.string ⟨#[]⟩] 61); have B14 := Lib.hid ((B13.out.call hb14).call al14); clear hb14 al14 CK B13 E13 q5 d82 k13)
       | (refine (CB.out _ _ EN.out).mono ?_; rintro e w15 ⟨rfl, hb15⟩; have B15 := Lib.hid (B14.out.call hb15); clear hb15 EN B14 CB)) ))
  go_ret
  exact ⟨rfl, HLL.out ▸ B15.out.1⟩
end Go.Proofs.YtfeonjiiijdibaaGreatDoor
