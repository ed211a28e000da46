/-
  ModelPins: the walk (written by makers/mdllaws.py).
-/
import Derived.Test.YtdahhnefcageeaaMdlWindow
import Derived.Test.YtdahhnefcageeaaMdlPinsP
import Derived.Test.YtdahhnefcageeaaMdlRefEq
namespace Go.Proofs.Ytdahhnefcageeaa
open Go.RowKit Go.Proofs.Mdl
set_option linter.unusedVariables false
set_option linter.unusedSimpArgs false
theorem inv_len {M : Mod} (h : Inv M) {b : Int} {es : List Ent} (k : HasV M b es) : es.length ≤ 1000 := by
  obtain ⟨V, h1, _, rfl, _⟩ := k
  have := (h.ver V h1).2.2.2.1.few
  omega
def PinSt (w0 : World) (g : Nat) (ab : Int) (es : List Ent) (vw : Value) (q : Nat) (W : World) : Prop := ∃ M, Hm W g M ∧ Inv M ∧ HasV M ab es ∧ ab < M.n ∧ M.all.length ≤ q ∧ EsN (fun b => ¬ b = g) W vw es ∧ Bl w0.heap.size w0 W
theorem PinSt.mono {w0 : World} {g : Nat} {ab : Int} {es : List Ent} {vw : Value} {q q' : Nat} {W : World} (h : PinSt w0 g ab es vw q W) (hq : q ≤ q') : PinSt w0 g ab es vw q' W := by
  obtain ⟨M, h1, h2, h3, h4, h5, h6⟩ := h
  exact ⟨M, h1, h2, h3, h4, Nat.le_trans h5 hq, h6⟩
/-- Two boxes that hold models. -/
def Hn (w : World) (g p : Nat) (r : Nat) (M : Mod) : Prop := ∃ A c, Blk w r 24 #[.int .i64 M.w, .int .i64 M.n, .slice A M.all.length c] ∧ Md (fun b => ¬ b = g ∧ ¬ b = p) w (.agg #[.int .i64 M.w, .int .i64 M.n, .slice A M.all.length c]) M
theorem least (S : Nat → Prop) : ∀ n, S n → ∃ m, S m ∧ ∀ k, S k → m ≤ k := by
  intro n
  induction n using Nat.strongRecOn with
  | _ n ih =>
    intro hn
    by_cases h : ∃ k, k < n ∧ S k
    · obtain ⟨k, hk, hs⟩ := h
      exact ih k hk hs
    · exact ⟨n, hn, fun k hk => Nat.le_of_not_lt (fun h' => h ⟨k, h', hk⟩)⟩
noncomputable def minOf (S : Nat → Prop) : Nat := open Classical in if h : ∃ m, S m ∧ ∀ k, S k → m ≤ k then h.choose else 0
theorem minOf_spec {S : Nat → Prop} {n : Nat} (h : S n) : S (minOf S) ∧ ∀ k, S k → minOf S ≤ k := by
  unfold minOf
  rw [dif_pos (least S n h)]
  exact (least S n h).choose_spec
/-- Ahead of the last pin. -/
def PinN (ab : Int) (g p : Nat) (W : World) (q : Nat) : Prop := ∃ M, Hn W g p p M ∧ Inv M ∧ ab < M.n ∧ M.all.length ≤ 200 ∧ pinsB M ab = q
set_option maxRecDepth 100000 in
set_option maxHeartbeats 8000000 in
theorem pins_walk (w : World) (n : Int) (A : Option Addr) (c : Nat) (l : List Mdl.Act) (h : Lk w A l) (A' : Option Addr) (c' : Nat) (l' : List Mdl.Act) (h' : Lk w A' l') :
    Calls Try.prog 5 #[.int .i64 n, .slice A l.length c, .slice A' l'.length c'] w fun e w' => e = .returned (.bool true) ∧ Below w.heap.size w w' := by
  have WK := Lib.hid (fun W => works_any W)
  have FW := Lib.hid (fun W (hW : Below w.heap.size w W) => few_any (c := c) (h.below hW))
  have FW' := Lib.hid (fun W (hW : Below w.heap.size w W) => few_any (c := c') (h'.below hW))
  have NW := Lib.hid (fun W => new_any n W)
  have HL := Lib.hid h
  have HL' := Lib.hid h'
  obtain ⟨z, hz⟩ : ∃ z, z = l.length := ⟨_, rfl⟩
  have HZ := Lib.hid hz
  obtain ⟨y, hy⟩ : ∃ y, y = l'.length := ⟨_, rfl⟩
  have HY := Lib.hid hy
  rw [← hz] at FW ⊢
  rw [← hy] at FW' ⊢
  have W0 := Lib.hid (Bl.start w)
  clear h hz h' hy
  go_enter Try.func5, Try.ntmps5
  go_upto_region 4 with (go_at_call 9; refine (WK.out _).mono ?_; rintro e w1 ⟨rfl, hb⟩; have W1 := Lib.hid (W0.out.call hb); clear hb)
  go_wp2_with fail
  refine (FW.out _ W1.out.1).mono ?_
  rintro e w2 ⟨⟨bf, rfl, hbf, rfl⟩⟩
  have HBF := Lib.hid hbf
  clear hbf
  cases bf with
  | false =>
    go_wp2_with fail
    go_ret
    exact ⟨rfl, W1.out.1⟩
  | true =>
    obtain ⟨fl, fc⟩ := HBF.out rfl
    have FC := Lib.hid fc
    have zl : z ≤ 30 := by have := HZ.out; omega
    clear fl fc HBF FW WK
    go_wp2_with fail
    refine (FW'.out _ W1.out.1).mono ?_
    rintro e w2 ⟨⟨bf, rfl, hbf, rfl⟩⟩
    have HBF := Lib.hid hbf
    clear hbf
    cases bf with
    | false =>
      go_wp2_with fail
      go_ret
      exact ⟨rfl, W1.out.1⟩
    | true =>
      obtain ⟨fl, fc⟩ := HBF.out rfl
      have FC' := Lib.hid fc
      have yl : y ≤ 30 := by have := HY.out; omega
      clear fl fc HBF FW'
      go_upto_region 8 with (go_at_call 25; refine (NW.out _).mono ?_; rintro e w3 ⟨v3, rfl, hmd, hb⟩; obtain ⟨u3, hv3, hvl⟩ := hmd; obtain ⟨A3, c3, hs3⟩ := hvl.shape; subst hs3; subst hv3; have VL3 := Lib.hid hvl; have W3 := Lib.hid (W1.out.call hb); clear hb hvl)
      have bl4 : Below w3.heap.size w3 (w3.alloc (.cells #[.int .i64 (newM n).w, .int .i64 (newM n).n, .slice A3 (newM n).all.length c3] 24)) := (Below.refl _ _).alloc (Nat.le_refl _) _
      have HM4 : Hid (Hm (w3.alloc (.cells #[.int .i64 (newM n).w, .int .i64 (newM n).n, .slice A3 (newM n).all.length c3] 24)) w3.heap.size (newM n)) := Lib.hid ⟨A3, c3, Blk.new w3 _ _, ⟨_, rfl, (VL3.out.mono (N' := fun b => ¬ b = w3.heap.size) (fun b _ hb => by omega)).below bl4⟩⟩
      have W4 := Lib.hid (W3.out.call bl4)
      have GW := Lib.hid W3.out.2
      clear bl4
      generalize w3.alloc (.cells #[.int .i64 (newM n).w, .int .i64 (newM n).n, .slice A3 (newM n).all.length c3] 24) = w4 at *
      generalize w3.heap.size = g at *
      go_wp2_with fail
      go_loopw [10] (fun vi wr => ∃ k : Nat, vi = .int .i64 (k : Int) ∧ k ≤ z ∧ Hid (Hm wr g (runM (newM n) (l.take k))) ∧ Hid (Bl w.heap.size w wr)) (fun vi _ => z - (intOf vi).toNat)
      case atStart => exact ⟨0, rfl, Nat.zero_le _, HM4, W4⟩
      case round =>
        clear HM4 W4
        obtain ⟨k, rfl, hk, HM, W4⟩ := hrel
        by_cases hlt : k < z
        · obtain ⟨x, hx⟩ : ∃ x, l[k]? = some x := ⟨_, List.getElem?_eq_getElem (by rw [← HZ.out]; exact hlt)⟩
          obtain ⟨b, o, rfl, hbl, vc, d0, d1, d2, hcs⟩ := (HL.out.below W4.out.1).at_ k x hx
          have BGN : Hid (¬ b = g) := Lib.hid (fun e => by obtain ⟨b', o', e', hb', _⟩ := HL.out.at_ k x hx; cases e'; have := GW.out; omega)
          obtain ⟨A5, c5, hblk, hmd⟩ := HM.out
          have STEP := Lib.hid (runM_step (newM n) hx)
          obtain ⟨M, hM⟩ : ∃ M, M = runM (newM n) (l.take k) := ⟨_, rfl⟩
          have IM : Inv M := by rw [hM]; exact runM_inv _ (inv_new n)
          have LM : M.all.length ≤ 31 := by
            have h1 := runM_len (l.take k) (newM n)
            rw [← hM] at h1
            have h2 : (newM n).all.length = 1 := rfl
            rw [List.length_take] at h1
            omega
          rw [← hM] at hblk hmd STEP
          clear hM
          have CX := FC.out x (List.mem_of_getElem? hx)
          have IR : Hid (Inv (doM M x).1) := Lib.hid (IM.act x)
          have DO := Lib.hid (fun W (hW : Below wr.heap.size wr W) => do_any (a := x) (hmd.below hW) (hcs.below hW) (by omega) (invFew IM) (by omega))
          obtain ⟨A6, c6, rfl⟩ := hcs.shape
          have BG := Lib.hid hblk
          have q0 := hblk.cell 0
          have q1 := hblk.cell 1
          have q2 := hblk.cell 2
          simp only [List.getElem?_toArray, List.getElem?_cons_succ, List.getElem?_cons_zero] at q0 q1 q2
          have i1 : (k : Int) < (z : Int) := by omega
          have wk : IntKind.i64.wrap ((k : Int) + 1) = (k : Int) + 1 := IntWalk.i64_in _ (by omega)
          clear hx hblk hmd hcs HM IM LM CX
          obtain ⟨K, hK⟩ : ∃ K, K = doM M x := ⟨_, rfl⟩
          have HK := Lib.hid hK
          rw [← hK] at DO IR
          clear hK
          obtain ⟨R, e1, e2⟩ := K
          simp only at DO IR
          have GL := Lib.hid BG.out.lt
          have BL := Lib.hid hbl
          have D0 := Lib.hid d0
          have D1 := Lib.hid d1
          have D2 := Lib.hid d2
          go_upto_region 11 with (fail)
          have F0 : Hid (Far (fun i => i = g) wr wr.drew) := Lib.hid (Far.refl _ wr).drew
          have G0 : Hid (Below wr.heap.size wr wr.drew) := Lib.hid ((Bl.start wr).drewN 1).1
          have WD := Lib.hid W4.out.drew
          have BD := Lib.hid (BG.out.drewN 1)
          go_region_law (first
              | (go_simp; go_at_call 12; (with_reducible refine (DO.out _ G0.out).mono ?_); rintro e w5 ⟨v5, rfl, hmd, hb⟩; obtain ⟨u5, hv5, hvl⟩ := hmd; obtain ⟨A7, c7, hs5⟩ := hvl.shape; subst hs5; subst hv5; have VL5 := Lib.hid hvl; have F1 := Lib.hid (farEv_trans g _ _ _ F0.out (farEv_below g hb)); have F2 := Lib.hid (((F1.out.setCell (p := ⟨g, 0, none⟩) (fun _ => rfl) (.int .i64 R.w)).setCell (p := ⟨g, 1, none⟩) (fun _ => rfl) (.int .i64 R.n)).setCell (p := ⟨g, 2, none⟩) (fun _ => rfl) (.slice A7 R.all.length c7)); have W5 := Lib.hid (WD.out.call hb); have BG5 := Lib.hid (Blk.below (w := wr.drew) BD.out hb); have r0 := BG5.out.cell 0; have r1 := BG5.out.cell 1; have r2 := BG5.out.cell 2; simp only [List.getElem?_toArray, List.getElem?_cons_succ, List.getElem?_cons_zero] at r0 r1 r2; have f0 := BG5.out.frozen 0; have f1 := BG5.out.frozen 1; have f2 := BG5.out.frozen 2; clear hb hvl))
          all_goals (
            go_wp2_with fail
            obtain ⟨W', hW', bw', ff', bp'⟩ := put3 BG5.out W5.out GW.out (.int .i64 R.w) (.int .i64 R.n) (.slice A7 R.all.length c7)
            rw [← hW']
            have VLn := Lib.hid ((VL5.out.mono (N' := fun b => ¬ b = g) (fun b hb _ => by have := GL.out; rcases hb with hb | hb; exact hb; have h9 : wr.heap.size ≤ b := hb; omega)).far ff' (fun b hb _ e => hb e))
            have FF := Lib.hid (farEv_trans g _ _ _ F1.out ff')
            refine ⟨⟨k + 1, rfl, hlt, Lib.hid ?_, Lib.hid bw'⟩, by simp [intOf]; omega⟩
            rw [STEP.out, ← HK.out]
            exact ⟨A7, c7, bp', ⟨_, rfl, VLn.out⟩⟩)
        · have i1 : ¬ (k : Int) < (z : Int) := by omega
          obtain rfl : k = z := by omega
          have tk : l.take k = l := by rw [HZ.out, List.take_length]
          rw [tk] at HM
          clear tk
          obtain ⟨M, hM⟩ : ∃ M, M = runM (newM n) l := ⟨_, rfl⟩
          have IM : Inv M := by rw [hM]; exact runM_inv _ (inv_new n)
          have LM : M.all.length ≤ 31 := by
            have h1 := runM_len l (newM n)
            rw [← hM] at h1
            have h2 : (newM n).all.length = 1 := rfl
            have := HZ.out
            omega
          have PM : Hid (PinsLe M 30) := Lib.hid (by
            have h1 := runM_pins l (new_pins n) (Int.le_refl _)
            rw [← hM] at h1
            intro V hV
            have := h1 V hV
            have := HZ.out
            omega)
          have HW9 : Hid (M.w = (newM n).w) := Lib.hid (by rw [hM, runM_w])
          rw [← hM] at HM
          have INV := Lib.hid IM
          obtain ⟨A5, c5, hblk, hmd⟩ := HM.out
          have BG := Lib.hid hblk
          have MD := Lib.hid hmd
          have GL := Lib.hid BG.out.lt
          have q0 := BG.out.cell 0
          have q1 := BG.out.cell 1
          have q2 := BG.out.cell 2
          simp only [List.getElem?_toArray, List.getElem?_cons_succ, List.getElem?_cons_zero] at q0 q1 q2
          have f0 := BG.out.frozen 0
          have f1 := BG.out.frozen 1
          have f2 := BG.out.frozen 2
          clear hM IM hblk hmd HM
          obtain ⟨ab, hab⟩ : ∃ ab, ab = M.n - 1 := ⟨_, rfl⟩
          obtain ⟨es, hp1, hp2, hp3⟩ := INV.out.pinned PM.out (by decide)
          have IP := Lib.hid (INV.out.pin (-1))
          have PI := Lib.hid (pin_any (b := -1) MD.out (by omega) (invFew INV.out))
          have LP : (pinM M (-1)).1.all.length ≤ 32 := by
            have h1 := act_len M ⟨1, [], -1⟩
            have h2 : doM M ⟨1, [], -1⟩ = pinM M (-1) := rfl
            rw [h2] at h1
            omega
          obtain ⟨P, hP⟩ : ∃ P, P = pinM M (-1) := ⟨_, rfl⟩
          rw [← hP] at PI IP LP hp1 hp2 hp3
          clear hP
          obtain ⟨R, e1, e2⟩ := P
          simp only at PI IP LP hp1 hp2 hp3
          simp only [Prod.mk.injEq] at hp1
          obtain ⟨rfl, rfl⟩ := hp1
          rw [← hab] at PI hp2
          have HV := Lib.hid hp2
          have HN : Hid (ab < R.n) := Lib.hid (by omega)
          have H0 : Hid (0 ≤ ab) := Lib.hid (by have := INV.out.right.2.2.1; omega)
          have LES := Lib.hid (inv_len IP.out hp2)
          clear hp2 hp3 hab MD PM INV LM
          go_upto_region 13 with (go_at_call 27; refine PI.out.mono ?_; rintro e w5 ⟨v5, rfl, hmd, hb⟩; obtain ⟨u5, hv5, hvl⟩ := hmd; obtain ⟨A7, c7, hs5⟩ := hvl.shape; subst hs5; subst hv5; have VL5 := Lib.hid hvl; have BG5 := Lib.hid (BG.out.below hb); have W5 := Lib.hid (W4.out.call hb); clear hb hvl q0 q1 q2 f0 f1 f2; have r0 := BG5.out.cell 0; have r1 := BG5.out.cell 1; have r2 := BG5.out.cell 2; simp only [List.getElem?_toArray, List.getElem?_cons_succ, List.getElem?_cons_zero] at r0 r1 r2; have f0 := BG5.out.frozen 0; have f1 := BG5.out.frozen 1; have f2 := BG5.out.frozen 2)
          obtain ⟨W', hW', bw', ff', bp'⟩ := put3 BG5.out W5.out GW.out (.int .i64 R.w) (.int .i64 R.n) (.slice A7 R.all.length c7)
          rw [← hW']
          have VLn := Lib.hid ((VL5.out.mono (N' := fun b => ¬ b = g) (fun b hb _ => by have := GL.out; rcases hb with hb | hb; exact hb; have h9 : wr.heap.size ≤ b := hb; omega)).far ff' (fun b hb _ e => hb e))
          have BW' := Lib.hid bw'
          have BP' := Lib.hid bp'
          have AT := Lib.hid (at_any (blk := ab) (show Md (fun b => ¬ b = g) W' (.agg #[.int .i64 R.w, .int .i64 R.n, .slice A7 R.all.length c7]) R from ⟨_, rfl, VLn.out⟩) (by omega) (fun V hV => (invFew IP.out V hV).1))
          rw [HV.out.at_ IP.out] at AT
          simp only at AT
          clear r0 r1 r2 f0 f1 f2 bw' ff' bp' hW' VL5 BG5 W5 PI BG W4
          have r0 := BP'.out.cell 0
          have r1 := BP'.out.cell 1
          have r2 := BP'.out.cell 2
          simp only [List.getElem?_toArray, List.getElem?_cons_succ, List.getElem?_cons_zero] at r0 r1 r2
          go_upto_region 14 with (go_at_call 18; refine AT.out.mono ?_; rintro e w6 ⟨v6, rfl, hes, hb⟩; obtain ⟨Aw, cw, hs⟩ := hes.toEs.shape; subst hs; have ES := Lib.hid hes; have B6 := Lib.hid hb; clear hb hes)
          have PS : Hid (PinSt w g ab es (.slice Aw es.length cw) (32 + 0) w6) := Lib.hid ⟨R, ⟨A7, c7, BP'.out.below B6.out, ⟨_, rfl, VLn.out.below B6.out⟩⟩, IP.out, HV.out, HN.out, LP, ES.out.mono (fun b hb _ e => by have h9 : W'.heap.size ≤ b := hb; have := BP'.out.lt; omega), BW'.out.call B6.out⟩
          clear AT VLn ES B6 BW' BP' HV HN IP LP r0 r1 r2
          go_upto_region 17 with (fail)
          go_loopw [15, 16, 17] (fun vi _ _ wr => ∃ k : Nat, vi = .int .i64 (k : Int) ∧ k ≤ y ∧ Hid (PinSt w g ab es (.slice Aw es.length cw) (32 + k) wr)) (fun vi _ _ _ => y - (intOf vi).toNat)
          case atStart => exact ⟨0, rfl, Nat.zero_le _, PS⟩
          case round =>
            clear PS
            obtain ⟨k, rfl, hk, PS⟩ := hrel
            by_cases hlt : k < y
            · obtain ⟨x, hx⟩ : ∃ x, l'[k]? = some x := ⟨_, List.getElem?_eq_getElem (by rw [← HY.out]; exact hlt)⟩
              have i1 : (k : Int) < (y : Int) := by omega
              have wk : IntKind.i64.wrap ((k : Int) + 1) = (k : Int) + 1 := IntWalk.i64_in _ (by omega)
              obtain ⟨M, HM0, IM, HV0, HN0, LM, HE0, W40⟩ := PS.out
              have W4 := Lib.hid W40
              clear W40
              obtain ⟨b, o, rfl, hbl, vc, d0, d1, d2, hcs⟩ := (HL'.out.below W4.out.1).at_ k x hx
              obtain ⟨xk, xc, xn⟩ := x
              simp only at d0 d1 d2 hcs
              by_cases hc : xk = 0 ∨ xk = 1 ∨ ¬ xn = ab
              · have BGN : Hid (¬ b = g) := Lib.hid (fun e => by obtain ⟨b', o', e', hb', _⟩ := HL'.out.at_ k _ hx; cases e'; have := GW.out; omega)
                have HVR := Lib.hid (HV0.act IM ⟨xk, xc, xn⟩ hc)
                have HNR : Hid (ab < (doM M ⟨xk, xc, xn⟩).1.n) := Lib.hid (by have := act_n M ⟨xk, xc, xn⟩; omega)
                have LR : Hid ((doM M ⟨xk, xc, xn⟩).1.all.length ≤ 32 + (k + 1)) := Lib.hid (by have := act_len M ⟨xk, xc, xn⟩; omega)
                have HE := Lib.hid HE0
                obtain ⟨A5, c5, hblk, hmd⟩ := HM0
                have three : xk = 0 ∨ xk = 1 ∨ (¬ xk = 0 ∧ ¬ xk = 1 ∧ ¬ xn = ab) := by
                  by_cases h0 : xk = 0
                  · exact .inl h0
                  · by_cases h1 : xk = 1
                    · exact .inr (.inl h1)
                    · exact .inr (.inr ⟨h0, h1, (hc.resolve_left h0).resolve_left h1⟩)
                clear HV0 HN0 HE0 hc PS
                have CX := FC'.out ⟨xk, xc, xn⟩ (List.mem_of_getElem? hx)
                have IR : Hid (Inv (doM M ⟨xk, xc, xn⟩).1) := Lib.hid (IM.act ⟨xk, xc, xn⟩)
                have DO := Lib.hid (fun W (hW : Below wr.heap.size wr W) => do_any (a := ⟨xk, xc, xn⟩) (hmd.below hW) (hcs.below hW) (by omega) (invFew IM) (by omega))
                obtain ⟨A6, c6, rfl⟩ := hcs.shape
                have BG := Lib.hid hblk
                have q0 := hblk.cell 0
                have q1 := hblk.cell 1
                have q2 := hblk.cell 2
                simp only [List.getElem?_toArray, List.getElem?_cons_succ, List.getElem?_cons_zero] at q0 q1 q2
                have i1 : (k : Int) < (y : Int) := by omega
                have wk : IntKind.i64.wrap ((k : Int) + 1) = (k : Int) + 1 := IntWalk.i64_in _ (by omega)
                clear hx hblk hmd hcs IM LM CX
                obtain ⟨K, hK⟩ : ∃ K, K = doM M ⟨xk, xc, xn⟩ := ⟨_, rfl⟩
                have HK := Lib.hid hK
                rw [← hK] at DO IR HVR HNR LR
                clear hK
                obtain ⟨R, e1, e2⟩ := K
                simp only at DO IR HVR HNR LR
                have GL := Lib.hid BG.out.lt
                have BL := Lib.hid hbl
                have D0 := Lib.hid d0
                have D1 := Lib.hid d1
                have D2 := Lib.hid d2

                rcases three with rfl | rfl | ⟨m0, m1, m2⟩
                · go_upto_region 20 with (fail)
                  have F0 : Hid (Far (fun i => i = g) wr wr.drew) := Lib.hid (Far.refl _ wr).drew
                  have G0 : Hid (Below wr.heap.size wr wr.drew) := Lib.hid ((Bl.start wr).drewN 1).1
                  have WD := Lib.hid W4.out.drew
                  have BD := Lib.hid (BG.out.drewN 1)
                  go_region_law (first
                      | (go_simp; go_at_call 12; (with_reducible refine (DO.out _ G0.out).mono ?_); rintro e w5 ⟨v5, rfl, hmd, hb⟩; obtain ⟨u5, hv5, hvl⟩ := hmd; obtain ⟨A7, c7, hs5⟩ := hvl.shape; subst hs5; subst hv5; have VL5 := Lib.hid hvl; have F1 := Lib.hid (farEv_trans g _ _ _ F0.out (farEv_below g hb)); have F2 := Lib.hid (((F1.out.setCell (p := ⟨g, 0, none⟩) (fun _ => rfl) (.int .i64 R.w)).setCell (p := ⟨g, 1, none⟩) (fun _ => rfl) (.int .i64 R.n)).setCell (p := ⟨g, 2, none⟩) (fun _ => rfl) (.slice A7 R.all.length c7)); have W5 := Lib.hid (WD.out.call hb); have BG5 := Lib.hid (Blk.below (w := wr.drew) BD.out hb); have r0 := BG5.out.cell 0; have r1 := BG5.out.cell 1; have r2 := BG5.out.cell 2; simp only [List.getElem?_toArray, List.getElem?_cons_succ, List.getElem?_cons_zero] at r0 r1 r2; have f0 := BG5.out.frozen 0; have f1 := BG5.out.frozen 1; have f2 := BG5.out.frozen 2; clear hb hvl))
                  all_goals (
                    obtain ⟨W', hW', bw', ff', bp'⟩ := put3 BG5.out W5.out GW.out (.int .i64 R.w) (.int .i64 R.n) (.slice A7 R.all.length c7)
                    rw [← hW']
                    have VLn := Lib.hid ((VL5.out.mono (N' := fun b => ¬ b = g) (fun b hb _ => by have := GL.out; rcases hb with hb | hb; exact hb; have h9 : wr.heap.size ≤ b := hb; omega)).far ff' (fun b hb _ e => hb e))
                    have FF := Lib.hid (farEv_trans g _ _ _ F1.out ff')
                    have BW' := Lib.hid bw'
                    have BP' := Lib.hid bp'
                    have AT := Lib.hid (at_any (blk := ab) (show Md (fun b => ¬ b = g) W' (.agg #[.int .i64 R.w, .int .i64 R.n, .slice A7 R.all.length c7]) R from ⟨_, rfl, VLn.out⟩) (by have := LR.out; omega) (fun V hV => (invFew IR.out V hV).1))
                    rw [HVR.out.at_ IR.out] at AT
                    simp only at AT
                    clear r0 r1 r2 f0 f1 f2 q0 q1 q2 bw' ff' bp' hW' VL5 BG5 W5 DO
                    have s0 := BP'.out.cell 0
                    have s1 := BP'.out.cell 1
                    have s2 := BP'.out.cell 2
                    simp only [List.getElem?_toArray, List.getElem?_cons_succ, List.getElem?_cons_zero] at s0 s1 s2
                    have HE' := Lib.hid (HE.out.far FF.out (fun b hb _ e => hb e))
                    go_upto_region 22 with (go_at_call 18; refine AT.out.mono ?_; rintro e w6 ⟨v6, rfl, hes, hb⟩; obtain ⟨Av, cv, hs⟩ := hes.toEs.shape; subst hs; have ES := Lib.hid hes; have B6 := Lib.hid hb; clear hb hes)
                    have SM := Lib.hid (sameE_any (HE'.out.below B6.out).toEs ES.out.toEs LES.out)
                    rw [show decide (es = es) = true from decide_eq_true rfl] at SM
                    go_wp2_with (go_at_call 23; refine SM.out.mono ?_; rintro e w7 ⟨rfl, hb⟩; have B7 := Lib.hid (B6.out.trans ((far_of_below hb).below B6.out.size (fun _ e => e.elim))); clear hb)
                    refine ⟨⟨k + 1, by go_num, by omega, Lib.hid ⟨R, ⟨A7, c7, BP'.out.below B7.out, ⟨_, rfl, VLn.out.below B7.out⟩⟩, IR.out, HVR.out, HNR.out, LR.out, HE'.out.below B7.out, BW'.out.call B7.out⟩⟩, by simp [intOf]; omega⟩)
                · go_upto_region 20 with (fail)
                  have F0 : Hid (Far (fun i => i = g) wr wr.drew) := Lib.hid (Far.refl _ wr).drew
                  have G0 : Hid (Below wr.heap.size wr wr.drew) := Lib.hid ((Bl.start wr).drewN 1).1
                  have WD := Lib.hid W4.out.drew
                  have BD := Lib.hid (BG.out.drewN 1)
                  go_region_law (first
                      | (go_simp; go_at_call 12; (with_reducible refine (DO.out _ G0.out).mono ?_); rintro e w5 ⟨v5, rfl, hmd, hb⟩; obtain ⟨u5, hv5, hvl⟩ := hmd; obtain ⟨A7, c7, hs5⟩ := hvl.shape; subst hs5; subst hv5; have VL5 := Lib.hid hvl; have F1 := Lib.hid (farEv_trans g _ _ _ F0.out (farEv_below g hb)); have F2 := Lib.hid (((F1.out.setCell (p := ⟨g, 0, none⟩) (fun _ => rfl) (.int .i64 R.w)).setCell (p := ⟨g, 1, none⟩) (fun _ => rfl) (.int .i64 R.n)).setCell (p := ⟨g, 2, none⟩) (fun _ => rfl) (.slice A7 R.all.length c7)); have W5 := Lib.hid (WD.out.call hb); have BG5 := Lib.hid (Blk.below (w := wr.drew) BD.out hb); have r0 := BG5.out.cell 0; have r1 := BG5.out.cell 1; have r2 := BG5.out.cell 2; simp only [List.getElem?_toArray, List.getElem?_cons_succ, List.getElem?_cons_zero] at r0 r1 r2; have f0 := BG5.out.frozen 0; have f1 := BG5.out.frozen 1; have f2 := BG5.out.frozen 2; clear hb hvl))
                  all_goals (
                    obtain ⟨W', hW', bw', ff', bp'⟩ := put3 BG5.out W5.out GW.out (.int .i64 R.w) (.int .i64 R.n) (.slice A7 R.all.length c7)
                    rw [← hW']
                    have VLn := Lib.hid ((VL5.out.mono (N' := fun b => ¬ b = g) (fun b hb _ => by have := GL.out; rcases hb with hb | hb; exact hb; have h9 : wr.heap.size ≤ b := hb; omega)).far ff' (fun b hb _ e => hb e))
                    have FF := Lib.hid (farEv_trans g _ _ _ F1.out ff')
                    have BW' := Lib.hid bw'
                    have BP' := Lib.hid bp'
                    have AT := Lib.hid (at_any (blk := ab) (show Md (fun b => ¬ b = g) W' (.agg #[.int .i64 R.w, .int .i64 R.n, .slice A7 R.all.length c7]) R from ⟨_, rfl, VLn.out⟩) (by have := LR.out; omega) (fun V hV => (invFew IR.out V hV).1))
                    rw [HVR.out.at_ IR.out] at AT
                    simp only at AT
                    clear r0 r1 r2 f0 f1 f2 q0 q1 q2 bw' ff' bp' hW' VL5 BG5 W5 DO
                    have s0 := BP'.out.cell 0
                    have s1 := BP'.out.cell 1
                    have s2 := BP'.out.cell 2
                    simp only [List.getElem?_toArray, List.getElem?_cons_succ, List.getElem?_cons_zero] at s0 s1 s2
                    have HE' := Lib.hid (HE.out.far FF.out (fun b hb _ e => hb e))
                    go_upto_region 22 with (go_at_call 18; refine AT.out.mono ?_; rintro e w6 ⟨v6, rfl, hes, hb⟩; obtain ⟨Av, cv, hs⟩ := hes.toEs.shape; subst hs; have ES := Lib.hid hes; have B6 := Lib.hid hb; clear hb hes)
                    have SM := Lib.hid (sameE_any (HE'.out.below B6.out).toEs ES.out.toEs LES.out)
                    rw [show decide (es = es) = true from decide_eq_true rfl] at SM
                    go_wp2_with (go_at_call 23; refine SM.out.mono ?_; rintro e w7 ⟨rfl, hb⟩; have B7 := Lib.hid (B6.out.trans ((far_of_below hb).below B6.out.size (fun _ e => e.elim))); clear hb)
                    refine ⟨⟨k + 1, by go_num, by omega, Lib.hid ⟨R, ⟨A7, c7, BP'.out.below B7.out, ⟨_, rfl, VLn.out.below B7.out⟩⟩, IR.out, HVR.out, HNR.out, LR.out, HE'.out.below B7.out, BW'.out.call B7.out⟩⟩, by simp [intOf]; omega⟩)
                · have n0 : (xk == 0) = false := by simp [m0]
                  have n1 : (xk == 1) = false := by simp [m1]
                  have n2 : (xn == ab) = false := by simp [m2]
                  have p0 : (xk != 0) = true := by simp [m0]
                  have p1 : (xk != 1) = true := by simp [m1]
                  go_upto_region 20 with (fail)
                  have F0 : Hid (Far (fun i => i = g) wr wr.drew) := Lib.hid (Far.refl _ wr).drew
                  have G0 : Hid (Below wr.heap.size wr wr.drew) := Lib.hid ((Bl.start wr).drewN 1).1
                  have WD := Lib.hid W4.out.drew
                  have BD := Lib.hid (BG.out.drewN 1)
                  go_region_law (first
                      | (go_simp; go_at_call 12; (with_reducible refine (DO.out _ G0.out).mono ?_); rintro e w5 ⟨v5, rfl, hmd, hb⟩; obtain ⟨u5, hv5, hvl⟩ := hmd; obtain ⟨A7, c7, hs5⟩ := hvl.shape; subst hs5; subst hv5; have VL5 := Lib.hid hvl; have F1 := Lib.hid (farEv_trans g _ _ _ F0.out (farEv_below g hb)); have F2 := Lib.hid (((F1.out.setCell (p := ⟨g, 0, none⟩) (fun _ => rfl) (.int .i64 R.w)).setCell (p := ⟨g, 1, none⟩) (fun _ => rfl) (.int .i64 R.n)).setCell (p := ⟨g, 2, none⟩) (fun _ => rfl) (.slice A7 R.all.length c7)); have W5 := Lib.hid (WD.out.call hb); have BG5 := Lib.hid (Blk.below (w := wr.drew) BD.out hb); have r0 := BG5.out.cell 0; have r1 := BG5.out.cell 1; have r2 := BG5.out.cell 2; simp only [List.getElem?_toArray, List.getElem?_cons_succ, List.getElem?_cons_zero] at r0 r1 r2; have f0 := BG5.out.frozen 0; have f1 := BG5.out.frozen 1; have f2 := BG5.out.frozen 2; clear hb hvl))
                  all_goals (
                    obtain ⟨W', hW', bw', ff', bp'⟩ := put3 BG5.out W5.out GW.out (.int .i64 R.w) (.int .i64 R.n) (.slice A7 R.all.length c7)
                    rw [← hW']
                    have VLn := Lib.hid ((VL5.out.mono (N' := fun b => ¬ b = g) (fun b hb _ => by have := GL.out; rcases hb with hb | hb; exact hb; have h9 : wr.heap.size ≤ b := hb; omega)).far ff' (fun b hb _ e => hb e))
                    have FF := Lib.hid (farEv_trans g _ _ _ F1.out ff')
                    have BW' := Lib.hid bw'
                    have BP' := Lib.hid bp'
                    have AT := Lib.hid (at_any (blk := ab) (show Md (fun b => ¬ b = g) W' (.agg #[.int .i64 R.w, .int .i64 R.n, .slice A7 R.all.length c7]) R from ⟨_, rfl, VLn.out⟩) (by have := LR.out; omega) (fun V hV => (invFew IR.out V hV).1))
                    rw [HVR.out.at_ IR.out] at AT
                    simp only at AT
                    clear r0 r1 r2 f0 f1 f2 q0 q1 q2 bw' ff' bp' hW' VL5 BG5 W5 DO
                    have s0 := BP'.out.cell 0
                    have s1 := BP'.out.cell 1
                    have s2 := BP'.out.cell 2
                    simp only [List.getElem?_toArray, List.getElem?_cons_succ, List.getElem?_cons_zero] at s0 s1 s2
                    have HE' := Lib.hid (HE.out.far FF.out (fun b hb _ e => hb e))
                    go_upto_region 22 with (go_at_call 18; refine AT.out.mono ?_; rintro e w6 ⟨v6, rfl, hes, hb⟩; obtain ⟨Av, cv, hs⟩ := hes.toEs.shape; subst hs; have ES := Lib.hid hes; have B6 := Lib.hid hb; clear hb hes)
                    have SM := Lib.hid (sameE_any (HE'.out.below B6.out).toEs ES.out.toEs LES.out)
                    rw [show decide (es = es) = true from decide_eq_true rfl] at SM
                    go_wp2_with (go_at_call 23; refine SM.out.mono ?_; rintro e w7 ⟨rfl, hb⟩; have B7 := Lib.hid (B6.out.trans ((far_of_below hb).below B6.out.size (fun _ e => e.elim))); clear hb)
                    refine ⟨⟨k + 1, by go_num, by omega, Lib.hid ⟨R, ⟨A7, c7, BP'.out.below B7.out, ⟨_, rfl, VLn.out.below B7.out⟩⟩, IR.out, HVR.out, HNR.out, LR.out, HE'.out.below B7.out, BW'.out.call B7.out⟩⟩, by simp [intOf]; omega⟩)
              · have m0 : ¬ xk = 0 := fun e => hc (.inl e)
                have m1 : ¬ xk = 1 := fun e => hc (.inr (.inl e))
                have n0 : (xk == 0) = false := by simp [m0]
                have n1 : (xk == 1) = false := by simp [m1]
                have p0 : (xk != 0) = true := by simp [m0]
                have p1 : (xk != 1) = true := by simp [m1]
                have n2 : xn = ab := Classical.not_not.1 (fun e => hc (.inr (.inr e)))
                rw [n2] at d2
                clear n2
                have BL := Lib.hid hbl
                clear hx hc HM0 IM HV0 HN0 LM HE0 hcs
                go_wp2_with fail
                exact ⟨⟨k + 1, by go_num, by omega, Lib.hid (PS.out.mono (by omega))⟩, by simp [intOf]; omega⟩
            · have i1 : ¬ (k : Int) < (y : Int) := by omega
              obtain ⟨M, HM0, IM, HV0, HN0, LM, HE0, W40⟩ := PS.out
              obtain ⟨A5, c5, hblk, hmd⟩ := HM0
              have W4 := Lib.hid W40
              have BG := Lib.hid hblk
              have MD := Lib.hid hmd
              have IV := Lib.hid IM
              have HN := Lib.hid HN0
              have LM' : Hid (M.all.length ≤ 200) := Lib.hid (by omega)
              have q0 := hblk.cell 0
              have q1 := hblk.cell 1
              have q2 := hblk.cell 2
              simp only [List.getElem?_toArray, List.getElem?_cons_succ, List.getElem?_cons_zero] at q0 q1 q2
              clear PS IM HV0 HN0 LM HE0 W40 hblk hmd
              go_upto_region 25 with (fail)
              have bl := (Below.refl wr.heap.size wr).alloc (Nat.le_refl _) (.cells #[.int .i64 M.w, .int .i64 M.n, .slice A5 M.all.length c5] 24)
              have HQ : Hid (∃ q, PinN ab g wr.heap.size (wr.alloc (.cells #[.int .i64 M.w, .int .i64 M.n, .slice A5 M.all.length c5] 24)) q) := Lib.hid ⟨_, M, ⟨A5, c5, Blk.new wr _ _, (MD.out.mono (N' := fun b => ¬ b = g ∧ ¬ b = wr.heap.size) (fun b h1 h2 => ⟨h1, by omega⟩)).below bl⟩, IV.out, HN.out, LM'.out, rfl⟩
              have HG : Hid (∃ a0 a1 a2, Blk (wr.alloc (.cells #[.int .i64 M.w, .int .i64 M.n, .slice A5 M.all.length c5] 24)) g 24 #[a0, a1, a2]) := Lib.hid ⟨_, _, _, BG.out.below bl⟩
              have W5 := Lib.hid (W4.out.call bl)
              have GP : Hid (¬ g = wr.heap.size) := Lib.hid (by have := BG.out.lt; omega)
              have PW := Lib.hid W4.out.2
              clear bl MD IV HN LM' BG W4 q0 q1 q2
              generalize wr.alloc (.cells #[.int .i64 M.w, .int .i64 M.n, .slice A5 M.all.length c5] 24) = w9 at *
              generalize wr.heap.size = p at *
              go_wp2_with fail
              go_loopw [19] (fun vh wr => Hid (Bl w.heap.size w wr) ∧ Hid (∃ a0 a1 a2, Blk wr g 24 #[a0, a1, a2]) ∧ ((vh = .int .i64 0 ∧ Hid (∃ q, PinN ab g p wr q)) ∨ (vh = .int .i64 4 ∧ Hid (∃ K, Hn wr g p g K ∧ Inv K ∧ ab < K.n ∧ K.all.length ≤ 200 ∧ ∀ V ∈ K.all, V.b = ab → V.p = 0)))) (fun vh wr => open Classical in if intOf vh = 0 then minOf (PinN ab g p wr) + 1 else 0)
              case atStart => exact ⟨W5, HG, .inl ⟨rfl, HQ⟩⟩
              case round =>
                clear W5 HG HQ
                obtain ⟨W4, HG, hh⟩ := hrel
                rcases hh with ⟨rfl, HQ⟩ | ⟨rfl, HK⟩
                · obtain ⟨q, hq⟩ := HQ.out
                  obtain ⟨⟨M, hM, IM, HN0, LM, hpq⟩, hmin⟩ := minOf_spec hq
                  obtain ⟨A5, c5, hblk, hmd⟩ := hM
                  obtain ⟨a0, a1, a2, hbg⟩ := HG.out
                  have BP := Lib.hid hblk
                  have MD := Lib.hid hmd
                  have UQ := Lib.hid (IM.unpinned ab)
                  have IV := Lib.hid IM
                  have HN := Lib.hid HN0
                  have LM' := Lib.hid LM
                  have HPQ := Lib.hid hpq
                  have q0 := hblk.cell 0
                  have q1 := hblk.cell 1
                  have q2 := hblk.cell 2
                  simp only [List.getElem?_toArray, List.getElem?_cons_succ, List.getElem?_cons_zero] at q0 q1 q2
                  have f0 := hbg.frozen 0
                  have f1 := hbg.frozen 1
                  have f2 := hbg.frozen 2
                  have s0 := hbg.cell 0
                  have s1 := hbg.cell 1
                  have s2 := hbg.cell 2
                  simp only [List.getElem?_toArray, List.getElem?_cons_succ, List.getElem?_cons_zero] at s0 s1 s2
                  have BG := Lib.hid hbg
                  clear hq hmin IM HN0 LM hpq hblk hmd hbg HQ HG
                  go_upto_region 28 with (fail)
                  obtain ⟨W1, hW1, bw1, ff1, bg1⟩ := put3 BG.out W4.out GW.out (.int .i64 M.w) (.int .i64 M.n) (.slice A5 M.all.length c5)
                  rw [← hW1]
                  have MD1 := Lib.hid (MD.out.far ff1 (fun b h1 _ => h1.1))
                  have BP1 := Lib.hid (Blk.far BP.out ff1 (fun e => GP.out e.symm))
                  have BG1 := Lib.hid bg1
                  have BW1 := Lib.hid bw1
                  have UN := Lib.hid (unpin_any (b := ab) MD1.out (by have := LM'.out; omega) (invFew IV.out))
                  clear q0 q1 q2 f0 f1 f2 s0 s1 s2 hW1 bw1 ff1 bg1 BG MD BP
                  have q0 := BG1.out.cell 0
                  have q1 := BG1.out.cell 1
                  have q2 := BG1.out.cell 2
                  simp only [List.getElem?_toArray, List.getElem?_cons_succ, List.getElem?_cons_zero] at q0 q1 q2
                  obtain ⟨R, hR⟩ : ∃ R, R = unpinM M ab := ⟨_, rfl⟩
                  rw [← hR] at UN UQ
                  clear hR
                  obtain ⟨R, e2⟩ := R
                  simp only at UN UQ
                  go_wp2_with (go_at_call 28; refine UN.out.mono ?_; rintro e w5 ⟨v5, rfl, hmd, hb⟩; obtain ⟨u5, hv5, hvl⟩ := hmd; obtain ⟨A7, c7, hs5⟩ := hvl.shape; subst hs5; subst hv5; have VL5 := Lib.hid hvl; have BP5 := Lib.hid (BP1.out.below hb); have BG5 := Lib.hid (BG1.out.below hb); have W5 := Lib.hid (BW1.out.call hb); have MD5 := Lib.hid (MD1.out.below hb); have SZ := Lib.hid hb.size; clear hb hvl q0 q1 q2; have r0 := BP5.out.cell 0; have r1 := BP5.out.cell 1; have r2 := BP5.out.cell 2; simp only [List.getElem?_toArray, List.getElem?_cons_succ, List.getElem?_cons_zero] at r0 r1 r2; have f0 := BP5.out.frozen 0; have f1 := BP5.out.frozen 1; have f2 := BP5.out.frozen 2)
                  obtain ⟨W', hW', bw', ff', bp'⟩ := put3 BP5.out W5.out PW.out (.int .i64 R.w) (.int .i64 R.n) (.slice A7 R.all.length c7)
                  rw [← hW']
                  have bg' : Blk W' g 24 _ := Blk.far BG5.out ff' GP.out
                  rcases UQ.out with ⟨rfl, hlt, hI, hn, hll⟩ | ⟨rfl, rfl, hz⟩
                  · have PN : PinN ab g p W' (pinsB R ab) := ⟨R, ⟨A7, c7, bp', ⟨_, rfl, (VL5.out.mono (N' := fun b => ¬ b = g ∧ ¬ b = p) (fun b hb _ => by have h7 := BG1.out.lt; have h8 := BP1.out.lt; rcases hb with hb | hb; exact hb; have h9 : W1.heap.size ≤ b := hb; exact ⟨by omega, by omega⟩)).far ff' (fun b hb _ => hb.2)⟩⟩, hI, by have := HN.out; omega, Nat.le_trans hll LM'.out, rfl⟩
                    refine ⟨⟨Lib.hid bw', Lib.hid ⟨_, _, _, bg'⟩, .inl ⟨rfl, Lib.hid ⟨_, PN⟩⟩⟩, ?_⟩
                    have h1 := (minOf_spec PN).2 _ PN
                    have h2 := HPQ.out
                    simp only [intOf, if_true]
                    omega
                  · refine ⟨⟨Lib.hid bw', Lib.hid ⟨_, _, _, bg'⟩, .inr ⟨rfl, Lib.hid ⟨R, ⟨A5, c5, bg', MD5.out.far ff' (fun b hb _ => hb.2)⟩, IV.out, HN.out, LM'.out, hz⟩⟩⟩, ?_⟩
                    simp [intOf]
                · obtain ⟨K, hK, IK, HN0, LK, hz⟩ := HK.out
                  obtain ⟨A5, c5, hblk, hmd⟩ := hK
                  have AT := Lib.hid (at_any (blk := ab) hmd (by omega) (fun V hV => (invFew IK V hV).1))
                  have gn := IK.gone H0.out HN0 hz
                  have BG := Lib.hid hblk
                  obtain ⟨k1, k2, k3, k4⟩ := IK.right
                  have wn : IntKind.i64.wrap (K.n - K.w) = K.n - K.w := IntWalk.i64_in _ (by omega)
                  have q0 := hblk.cell 0
                  have q1 := hblk.cell 1
                  have q2 := hblk.cell 2
                  simp only [List.getElem?_toArray, List.getElem?_cons_succ, List.getElem?_cons_zero] at q0 q1 q2
                  obtain ⟨X, hX⟩ : ∃ X, X = atM K ab := ⟨_, rfl⟩
                  rw [← hX] at AT gn
                  clear hX HK IK HN0 LK hz hblk hmd HG k1 k2 k3 k4
                  obtain ⟨xe, s⟩ := X
                  simp only at AT gn
                  by_cases hw : K.n - K.w ≤ ab
                  · rw [decide_eq_true hw] at gn
                    have s0 : s = 0 := of_decide_eq_true gn
                    subst s0
                    clear gn
                    go_wp2_with (go_at_call 18; refine AT.out.mono ?_; rintro e w6 ⟨v6, rfl, hes, hb⟩; obtain ⟨Av, cv, hs⟩ := hes.toEs.shape; subst hs; have B6 := Lib.hid hb; have BG6 := Lib.hid (BG.out.below hb); clear hb hes q0 q1 q2; have q0 := BG6.out.cell 0; have q1 := BG6.out.cell 1; simp only [List.getElem?_toArray, List.getElem?_cons_succ, List.getElem?_cons_zero] at q0 q1)
                    go_ret
                    exact ⟨rfl, (W4.out.call B6.out).1⟩
                  · rw [decide_eq_false hw] at gn
                    have s0 : ¬ s = 0 := of_decide_eq_false gn
                    have s1 : (s == 0) = false := by simp [s0]
                    clear gn
                    go_wp2_with (go_at_call 18; refine AT.out.mono ?_; rintro e w6 ⟨v6, rfl, hes, hb⟩; obtain ⟨Av, cv, hs⟩ := hes.toEs.shape; subst hs; have B6 := Lib.hid hb; have BG6 := Lib.hid (BG.out.below hb); clear hb hes q0 q1 q2; have q0 := BG6.out.cell 0; have q1 := BG6.out.cell 1; simp only [List.getElem?_toArray, List.getElem?_cons_succ, List.getElem?_cons_zero] at q0 q1)
                    go_ret
                    exact ⟨by simp [hw], (W4.out.call B6.out).1⟩
end Go.Proofs.Ytdahhnefcageeaa
