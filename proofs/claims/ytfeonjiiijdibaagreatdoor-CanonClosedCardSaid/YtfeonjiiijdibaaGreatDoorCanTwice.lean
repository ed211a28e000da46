/-
  CanonTwice: the walk.
-/
import Derived.Test.YtfeonjiiijdibaaGreatDoorGaCaF
import Derived.Test.YtfeonjiiijdibaaGreatDoorCanPlain
import Derived.Test.YtfeonjiiijdibaaGreatDoorMdlRefEq
namespace Go.Proofs.YtfeonjiiijdibaaGreatDoor
open Go.RowKit Go.Proofs.Nod Go.Proofs.Can
open Go.Proofs.Mdl hiding e0
set_option linter.unusedVariables false
set_option linter.unusedSimpArgs false
/-- A key's value, or none. -/
def fv : Option ByteArray → ByteArray
  | some v => v
  | none => ⟨#[]⟩
theorem findV_eq (o : Option ByteArray) : findV o = .tuple #[.string (fv o), .bool o.isSome] := by cases o <;> rfl
theorem told_fv {c : Chg} (h : chOk c = true) : fv (tell c) = c.v ∧ (tell c).isSome = !c.gone := by
  unfold chOk at h
  unfold tell
  cases hg : c.gone with
  | false => exact ⟨rfl, rfl⟩
  | true =>
    rw [hg] at h
    simp only [if_true, Bool.and_eq_true, decide_eq_true_eq] at h
    refine ⟨?_, rfl⟩
    show (⟨#[]⟩ : ByteArray) = c.v
    have h2 : c.v.data.size = 0 := h.2
    exact ByteArray.ext (Array.eq_empty_of_size_eq_zero h2).symm
theorem applyM_none {l : List Ent} {cs : List Chg} (h : ¬ (applyM l cs).2 = 0) : (applyM l cs).1 = [] := by
  unfold applyM at h ⊢
  split
  · next h1 =>
    rw [if_pos h1] at h
    split
    · next h2 =>
      rw [if_pos h2] at h
      split
      · rfl
      · next h3 => rw [if_neg h3] at h; exact absurd rfl h
    · rfl
  · rfl
theorem fold_take {k : ByteArray} {o : Option ByteArray} {cs : List Chg} {i : Nat} {x : Chg} (hx : cs[i]? = some x) : (cs.take (i + 1)).foldl (toldE k) o = toldE k ((cs.take i).foldl (toldE k) o) x := by
  rw [List.take_succ_eq_append_getElem (List.getElem?_eq_some_iff.1 hx).1, List.foldl_append, (List.getElem?_eq_some_iff.1 hx).2]
  rfl
set_option maxRecDepth 100000 in
set_option maxHeartbeats 8000000 in
theorem twice_walk (w : World) (hL : LaidN w) (v0 : Value) (l : List Ent) (S0 : Es w v0 l) (v1 : Value) (cs : List Chg) (S1 : Cs w v1 cs) (k : ByteArray) :
    Calls Tryz.prog 8 #[v0, v1, .string k] w fun e w' => e = .returned (.bool true) ∧ Below w.heap.size w w' := by
  obtain ⟨A0, c0, rfl⟩ := S0.shape
  obtain ⟨A1, c1, rfl⟩ := S1.shape
  have WK := Lib.hid (cworks_any w hL)
  have FW := Lib.hid (fun W (hW : Below w.heap.size w W) => cfewE_any (S0.below hW))
  have FC := Lib.hid (fun W (hW : Below w.heap.size w W) => cfewC_any (S1.below hW))
  have AP := Lib.hid (fun W (hW : Below w.heap.size w W) (h1 : l.length ≤ 1000) (h2 : cs.length ≤ 1000) => apply_any (S0.below hW) (S1.below hW) h1 h2)
  have AQ := Lib.hid (fun W va (hW : Below w.heap.size w W) (h : Es W va (applyM l cs).1) (h1 : (applyM l cs).1.length ≤ 1000) (h2 : cs.length ≤ 1000) => apply_any h (S1.below hW) h1 h2)
  have FD := Lib.hid (fun W (hW : Below w.heap.size w W) (h1 : l.length ≤ 1000) => find_any (S0.below hW) h1 k)
  have HC := Lib.hid S1
  obtain ⟨z0, hz0⟩ : ∃ z, z = l.length := ⟨_, rfl⟩
  obtain ⟨z, hz⟩ : ∃ z, z = cs.length := ⟨_, rfl⟩
  rw [← hz0] at FW AP FD ⊢
  rw [← hz] at FC AP AQ ⊢
  have HZ := Lib.hid hz
  have HZ0 := Lib.hid hz0
  clear S0 S1 hL hz hz0
  go_enter Tryz.func8, Tryz.ntmps8
  go_wp2_with fail
  refine WK.out.mono ?_
  rintro e w1 ⟨rfl, hb⟩
  have B1 := Lib.hid hb
  clear hb WK
  go_wp2_with fail
  refine (FW.out _ B1.out).mono ?_
  rintro e w2 ⟨⟨bf, rfl, hbf, rfl⟩⟩
  have HBF := Lib.hid hbf
  clear hbf FW
  cases bf with
  | false =>
    clear FC AP AQ FD
    go_wp2_with fail
    go_ret
    exact ⟨rfl, B1.out⟩
  | true =>
    have fl : Hid (z0 ≤ 45) := Lib.hid (HBF.out rfl)
    clear HBF
    go_wp2_with fail
    refine (FC.out _ B1.out).mono ?_
    rintro e w2 ⟨⟨bf, rfl, hbf, rfl⟩⟩
    have HBF := Lib.hid hbf
    clear hbf FC
    cases bf with
    | false =>
      clear AP AQ FD
      go_wp2_with fail
      go_ret
      exact ⟨rfl, B1.out⟩
    | true =>
      have fc : Hid (z ≤ 45) := Lib.hid (HBF.out rfl)
      clear HBF
      by_cases hk : (k.size : Int) > 100
      · clear AP AQ FD
        go_wp2_with fail
        go_ret
        exact ⟨rfl, B1.out⟩
      · go_wp2_with fail
        refine (AP.out _ B1.out (by have := fl.out; have := HZ0.out; omega) (by have := fc.out; have := HZ.out; omega)).mono ?_
        rintro e w3 ⟨v3, rfl, hes, hb⟩
        obtain ⟨A3, c3, hv3⟩ := hes.toEs.shape
        subst hv3
        have M3 := Lib.hid hes.toEs
        have B3 := Lib.hid (B1.out.trans (hb.mono B1.out.size))
        clear hes hb AP
        by_cases he : (applyM l cs).2 = 0
        · rw [he]
          have TW := applyM_twice he
          have GT := applyM_get he k
          obtain ⟨gl, cok, heq, gd⟩ := applyM_good he
          rw [← heq] at gd
          have CO := Lib.hid cok
          clear he heq gl cok
          rw [TW] at AQ
          generalize (applyM l cs).1 = m at *
          have GTH := Lib.hid GT
          obtain ⟨n3, hn3⟩ : ∃ n, n = m.length := ⟨_, rfl⟩
          have HN3 : Hid (n3 = m.length ∧ n3 ≤ 40) := Lib.hid ⟨hn3, by have := gd.few; omega⟩
          have CK := Lib.hid (fun W va (h : Es W va m) => check_any h (by have := gd.few; omega))
          have FM := Lib.hid (fun W va (h : Es W va m) => find_any h (by have := gd.few; omega) k)
          have SM := Lib.hid (fun W va vb (h : Es W va m) (h' : Es W vb m) => sameE_any h h' (by have := gd.few; omega))
          rw [good_iff.2 gd] at CK
          rw [GT] at FM
          rw [findV_eq] at FM
          rw [findV_eq] at FD
          simp only [decide_true] at SM
          rw [← hn3] at M3 ⊢
          clear TW GT gd hn3
          generalize getE l k = o0 at *
          go_wp2_with fail
          refine (AQ.out _ _ B3.out M3.out (by have := HN3.out; omega) (by have := fc.out; have := HZ.out; omega)).mono ?_
          rintro e w4 ⟨v4, rfl, hes, hb⟩
          obtain ⟨A4, c4, hv4⟩ := hes.toEs.shape
          subst hv4
          have M4 := Lib.hid hes.toEs
          have M34 := Lib.hid (M3.out.below hb)
          have B4 := Lib.hid (B3.out.trans (hb.mono B3.out.size))
          rw [← HN3.out.1] at M4 ⊢
          clear hes hb AQ M3 B3 B1
          go_wp2_with fail
          refine (FD.out _ B4.out (by have := fl.out; have := HZ0.out; omega)).mono ?_
          rintro e w5 ⟨rfl, hb⟩
          have M5 := Lib.hid (M34.out.below hb)
          have N5 := Lib.hid (M4.out.below hb)
          have B5 := Lib.hid (B4.out.trans (hb.mono B4.out.size))
          clear hb FD M34 M4 B4
          have HC5 := Lib.hid (HC.out.below B5.out)
          go_wp2_with fail
          go_loopw [13, 14, 15] (fun va vb vi wr => ∃ i : Nat, vi = .int .i64 (i : Int) ∧ i ≤ z ∧ va = .string (fv ((cs.take i).foldl (toldE k) o0)) ∧ vb = .bool ((cs.take i).foldl (toldE k) o0).isSome ∧ Hid (wr = w5)) (fun _ _ vi _ => z - (intOf vi).toNat)
          case atStart => exact ⟨0, rfl, Nat.zero_le _, rfl, rfl, Lib.hid rfl⟩
          case round =>
            obtain ⟨i, rfl, hi, rfl, rfl, HW⟩ := hrel
            obtain rfl := HW.out
            clear HW
            by_cases hlt : i < z
            · obtain ⟨x, hx⟩ : ∃ x, cs[i]? = some x := ⟨_, List.getElem?_eq_getElem (by rw [← HZ.out]; exact hlt)⟩
              have FT := Lib.hid (fold_take (k := k) (o := o0) hx)
              have CX := Lib.hid (told_fv (CO.out x (List.mem_of_getElem? hx)))
              obtain ⟨b, o, c', hv, hbl, d0, d1, d2⟩ := HC5.out.at_ hx
              simp only [Value.slice.injEq] at hv
              obtain ⟨rfl, -, -⟩ := hv
              generalize (cs.take i).foldl (toldE k) o0 = O at *
              have i1 : (i : Int) < (z : Int) := by omega
              have wk : IntKind.i64.wrap ((i : Int) + 1) = (i : Int) + 1 := IntWalk.i64_in _ (by have := fc.out; omega)
              clear hx
              by_cases hek : x.k = k
              · have be : (x.k.toList == k.toList) = true := by rw [bytes_eqF]; exact decide_eq_true hek
                have FT2 := Lib.hid (FT.out.trans (if_pos hek))
                clear hek
                go_wp2_with fail
                refine ⟨⟨i + 1, rfl, hlt, ?_, ?_, Lib.hid trivial⟩, by simp [intOf]; omega⟩
                · rw [FT2.out, CX.out.1]
                · rw [FT2.out, CX.out.2]
              · have be : (x.k.toList == k.toList) = false := by rw [bytes_eqF]; exact decide_eq_false hek
                have FT2 := Lib.hid (FT.out.trans (if_neg hek))
                clear hek
                go_wp2_with fail
                refine ⟨⟨i + 1, rfl, hlt, ?_, ?_, Lib.hid trivial⟩, by simp [intOf]; omega⟩
                · rw [FT2.out]
                · rw [FT2.out]
            · have i1 : ¬ (i : Int) < (z : Int) := by omega
              obtain rfl : i = z := by omega
              have TK : cs.take i = cs := by rw [HZ.out, List.take_length]
              rw [TK]
              clear TK
              generalize cs.foldl (toldE k) o0 = O at *
              go_wp2_with fail
              refine (FM.out _ _ M5.out).mono ?_
              rintro e w6 ⟨rfl, hb⟩
              have M6 := Lib.hid (M5.out.below hb)
              have N6 := Lib.hid (N5.out.below hb)
              have B6 := Lib.hid (B5.out.trans (hb.mono B5.out.size))
              clear hb FM M5 N5 HC5
              go_wp2_with fail
              refine (SM.out _ _ _ M6.out N6.out).mono ?_
              rintro e w7 ⟨rfl, hb⟩
              have M7 := Lib.hid (M6.out.below hb)
              have B7 := Lib.hid (B6.out.trans (hb.mono B6.out.size))
              clear hb SM M6 N6
              go_wp2_with fail
              refine (CK.out _ _ M7.out).mono ?_
              rintro e w8 ⟨rfl, hb⟩
              have B8 := Lib.hid (B7.out.trans (hb.mono B7.out.size))
              clear hb CK M7
              go_wp2_with fail
              go_ret
              exact ⟨rfl, B8.out⟩
        · have e1 := applyM_none he
          rw [e1] at M3 ⊢
          clear AQ FD
          generalize (applyM l cs).2 = q at *
          change Hid (Es w3 (.slice A3 0 c3) []) at M3
          simp only [List.length_nil]
          go_wp2_with fail
          go_ret
          exact ⟨rfl, B3.out⟩
end Go.Proofs.YtfeonjiiijdibaaGreatDoor
