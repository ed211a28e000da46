/-
  canon.Apply.
-/
import Derived.Test.YtdahhnefcageeaaMdlApp
import Derived.Test.YtdahhnefcageeaaMdlDif
import Derived.Handy
namespace Go.Proofs.Ytdahhnefcageeaa
open Go.RowKit Go.Proofs.Mdl
set_option linter.unusedVariables false
set_option linter.unusedSimpArgs false
theorem applyM_no {l : List Ent} {cs : List Chg} (h : ¬ checkN l = 0) : applyM l cs = ([], checkN l) := by unfold applyM; rw [if_neg h]
theorem applyM_bad {l : List Ent} {cs : List Chg} (h : checkN l = 0) {c : Chg} (hc : c ∈ cs) (h2 : chOk c = false) : applyM l cs = ([], 1) := by
  unfold applyM
  rw [if_pos h, if_neg]
  intro h3
  have := List.all_eq_true.1 h3 c hc
  rw [h2] at this
  cases this
theorem chOk_key {c : Chg} (h : chOk c = true) : c.k.size ≤ maxLen := by
  unfold chOk keyOk at h
  simp only [Bool.and_eq_true, decide_eq_true_eq] at h
  exact Nat.le_trans h.1.2 (by decide)
theorem good_key {l : List Ent} (h : Mdl.Good l) : ∀ e ∈ l, e.k.size ≤ maxLen := fun e he => by
  have := h.ok e he
  unfold entOk keyOk at this
  simp only [Bool.and_eq_true, decide_eq_true_eq] at this
  exact Nat.le_trans this.1.2 (by decide)
theorem leftOf (left : Lit → Bool) (x : ByteArray) : ∀ s, (fun s => (fun z => left z && !z.sameKey (kl x)) (kl s)) s = ((fun s => left (kl s)) s && !decide (s = x)) := fun s => by
  show (left (kl s) && !(kl s).sameKey (kl x)) = _
  rw [kl_same]
theorem own_block {w : World} {base : Nat} {T : TypeId} {k : Nat} {v : Value} {n : Nat} {xs : List Value} (h : w.ownsRow base T k v n xs) {g : Nat} (hg : v.ownBlock = some g) : base ≤ g ∧ g < w.heap.size := by
  rcases h.2 with ⟨rfl, h2⟩ | ⟨g', cap, cur, rfl, hb, hg', _⟩
  · cases hg
  · cases hg
    exact ⟨hb, (Array.getElem?_eq_some_iff.1 hg').1⟩
set_option maxRecDepth 100000 in
set_option maxHeartbeats 4000000 in
theorem apply_any {w : World} {vl vc : Value} {l : List Ent} {cs : List Chg} (hl : Es w vl l) (hc : Cs w vc cs) (h1 : l.length ≤ 1000) (h2 : cs.length ≤ 1000) :
    Calls Try.prog 29 #[vl, vc] w fun e w' => ∃ v', e = .returned (.tuple #[v', .int .i64 (applyM l cs).2]) ∧ EsN (fun b => w.heap.size ≤ b) w' v' (applyM l cs).1 ∧ Below w.heap.size w w' := by
  have CK := Lib.hid (check_any hl h1)
  have HL := Lib.hid hl
  have HC := Lib.hid hc
  obtain ⟨Al, cl, rfl⟩ := hl.shape
  obtain ⟨Ac, cc, rfl⟩ := hc.shape
  clear hl hc
  rcases checkN_cases l with h0 | h0 | h0
  rotate_left
  · have HA := Lib.hid (applyM_no (cs := cs) (by rw [h0]; decide : ¬ checkN l = 0))
    rw [h0] at CK HA
    clear h0
    go_enter Try.func29, Try.ntmps29
    go_wp2_with fail
    refine CK.out.mono ?_
    rintro e w1 ⟨rfl, hb1⟩
    go_wp2_with fail
    go_ret2
    exact ⟨.slice none 0 0, by rw [HA.out]; rfl, by rw [HA.out]; exact EsN.nil _ _, hb1⟩
  · have HA := Lib.hid (applyM_no (cs := cs) (by rw [h0]; decide : ¬ checkN l = 0))
    rw [h0] at CK HA
    clear h0
    go_enter Try.func29, Try.ntmps29
    go_wp2_with fail
    refine CK.out.mono ?_
    rintro e w1 ⟨rfl, hb1⟩
    go_wp2_with fail
    go_ret2
    exact ⟨.slice none 0 0, by rw [HA.out]; rfl, by rw [HA.out]; exact EsN.nil _ _, hb1⟩
  have GD := Lib.hid (good_iff.1 h0)
  have H0 := Lib.hid h0
  rw [h0] at CK
  clear h0
  obtain ⟨z, hz⟩ : ∃ z, z = cs.length := ⟨_, rfl⟩
  have HZ := Lib.hid hz
  rw [← hz] at h2 HC ⊢
  clear hz
  go_enter Try.func29, Try.ntmps29
  go_wp2_with fail
  refine CK.out.mono ?_
  rintro e w1 ⟨rfl, hb1⟩
  have HB1 := Lib.hid hb1
  clear hb1 CK
  have hmm := @run_makeMap Try.prog
  go_upto_region 5 with (fail)
  have MC := Lib.hid ((Mc.new w1).below ((Below.refl _ _).alloc (Nat.le_refl _) (.cells #[.map (some w1.heap.size)] 90)))
  have BW := Lib.hid ((((Bl.start w).call HB1.out).alloc (.map #[] 0)).alloc (.cells #[.map (some w1.heap.size)] 90))
  have HM : Hid (w.heap.size ≤ w1.heap.size) := Lib.hid HB1.out.size
  have BX := Lib.hid (Blk.new (w1.alloc (.map #[] 0)) 90 #[.map (some w1.heap.size)])
  have PM : Hid (¬ (w1.alloc (.map #[] 0)).heap.size = w1.heap.size) := Lib.hid (by rw [World.size_alloc]; omega)
  have hsz : w1.heap.size + 1 = (w1.alloc (.map #[] 0)).heap.size := by rw [World.size_alloc]
  rw [hsz]
  clear hsz
  generalize (w1.alloc (.map #[] 0)).alloc (.cells #[.map (some w1.heap.size)] 90) = w2 at *
  generalize (w1.alloc (.map #[] 0)).heap.size = p at *
  generalize w1.heap.size = m at *
  clear HB1
  go_wp2_with fail
  go_loopw [22] (fun vi wr => ∃ k : Nat, vi = .int .i64 (k : Int) ∧ k ≤ z ∧ Hid (Mc wr m (lastC (cs.take k)) k) ∧ Hid (Blk wr p 90 #[.map (some m)]) ∧ Hid (∀ c ∈ cs.take k, chOk c = true) ∧ Hid (Bl w.heap.size w wr)) (fun vi _ => z - (intOf vi).toNat)
  case atStart => exact ⟨0, rfl, Nat.zero_le _, MC, BX, Lib.hid (fun c hc => by cases hc), BW⟩
  case round =>
    clear MC BX BW
    obtain ⟨k, rfl, hk, MC, BX, OK, BW⟩ := hrel
    by_cases hlt : k < z
    · obtain ⟨x, hx⟩ : ∃ x, cs[k]? = some x := ⟨_, List.getElem?_eq_getElem (by rw [← HZ.out]; exact hlt)⟩
      obtain ⟨b, o, c', hv, hbl, d0, d1, d2⟩ := (HC.out.below BW.out.1).at_ hx
      simp only [Value.slice.injEq] at hv
      obtain ⟨rfl, -, -⟩ := hv
      have STEP := Lib.hid (lastC_step hx)
      have HX := Lib.hid hx
      have XIN := Lib.hid (List.mem_of_getElem? hx)
      have CH := Lib.hid (fun W => changeMay_any x W)
      have HX2 := Lib.hid (Blk.new wr 67 #[.string x.k, .string x.v, .bool x.gone])
      have b1 : Below wr.heap.size wr (wr.alloc (.cells #[.string x.k, .string x.v, .bool x.gone] 67)) := (Below.refl _ _).alloc (Nat.le_refl _) _
      have MC1 := Lib.hid (MC.out.below b1)
      have BX1 := Lib.hid (BX.out.below b1)
      have BW1 := Lib.hid (BW.out.call b1)
      have i1 : (k : Int) < (z : Int) := by omega
      have wk : IntKind.i64.wrap ((k : Int) + 1) = (k : Int) + 1 := IntWalk.i64_in _ (by omega)
      obtain ⟨r, hr⟩ : ∃ r, r = chOk x := ⟨_, rfl⟩
      rw [← hr] at CH
      have HR := Lib.hid hr
      obtain ⟨xk, xv, xg⟩ := x
      simp only at d0 d1 d2 HX2 b1 MC1 BX1 BW1 CH
      clear hx hr b1
      go_upto_region 8 with (fail)
      have h1 := Lib.hid (Nat.lt_of_lt_of_eq (Nat.lt_succ_self wr.heap.size) (World.size_alloc wr (.cells #[.string xk, .string xv, .bool xg] 67)).symm)
      generalize wr.alloc (.cells #[.string xk, .string xv, .bool xg] 67) = w3 at *
      generalize wr.heap.size = g at *
      have e0 := HX2.out.cell 0
      have e1 := HX2.out.cell 1
      have e2 := HX2.out.cell 2
      simp only [List.getElem?_toArray, List.getElem?_cons_succ, List.getElem?_cons_zero] at e0 e1 e2
      clear d0 d1 d2 hbl MC BX BW
      cases r with
      | false =>
        go_wp2_with (go_at_call 51; refine (CH.out _).mono ?_; rintro e w4 ⟨rfl, hb4⟩)
        go_ret2
        have HA := applyM_bad H0.out XIN.out HR.out.symm
        exact ⟨.slice none 0 0, by rw [HA]; rfl, by rw [HA]; exact EsN.nil _ _, (BW1.out.call hb4).1⟩
      | true =>
        have KL := Lib.hid (chOk_key HR.out.symm)
        go_upto_region 10 with (go_at_call 51; refine (CH.out _).mono ?_; rintro e w4 ⟨rfl, hb4⟩; have HB4 := Lib.hid hb4; clear hb4)
        have q0 := (HB4.out.cell (p := ⟨g, 0, none⟩) h1.out).trans e0
        have q1 := (HB4.out.cell (p := ⟨g, 1, none⟩) h1.out).trans e1
        have q2 := (HB4.out.cell (p := ⟨g, 2, none⟩) h1.out).trans e2
        have MC4 := Lib.hid (MC1.out.below HB4.out)
        have BX4 := Lib.hid (BX1.out.below HB4.out)
        have BW4 := Lib.hid (BW1.out.call HB4.out)
        have qm := BX4.out.cell 0
        simp only [List.getElem?_toArray, List.getElem?_cons_zero] at qm
        obtain ⟨w5, hput, hmc, hgr⟩ := MC4.out.put ⟨xk, xv, xg⟩ KL.out (by unfold maxLen; omega)
        unfold chVal at hput
        simp only at hput hmc
        have MC5 := Lib.hid hmc
        have GR5 := Lib.hid hgr
        clear hmc hgr e0 e1 e2
        go_wp2_with fail
        refine ⟨⟨k + 1, rfl, hlt, Lib.hid ?_, Lib.hid ?_, Lib.hid ?_, Lib.hid ?_⟩, by simp [intOf]; omega⟩
        · rw [STEP.out]; exact MC5.out
        · exact BX4.out.grown GR5.out (fun e => PM.out (Option.some.inj e).symm)
        · intro c hc
          rw [List.take_add_one, HX.out, Option.toList_some] at hc
          rcases List.mem_append.1 hc with hc | hc
          · exact OK.out c hc
          · rw [List.mem_singleton.1 hc]; exact HR.out.symm
        · exact Far.bl BW4.out ((Far.refl (fun i => i = m) _).grown GR5.out (fun i _ e => (Option.some.inj e).symm)) (fun i e => by rw [e]; exact HM.out)
    · have i1 : ¬ (k : Int) < (z : Int) := by omega
      obtain rfl : k = z := by omega
      have tk : cs.take k = cs := by rw [HZ.out, List.take_length]
      rw [tk] at MC OK
      have KEY := Lib.hid (good_key GD.out)
      have PS := Lib.hid BX.out.lt
      have PC := BX.out.cell 0
      simp only [List.getElem?_toArray, List.getElem?_cons_zero] at PC
      have CUT := Lib.hid (cut_any (HL.out.below BW.out.1) PS.out PC MC.out h1 KEY.out)
      clear tk PC i1
      go_upto_region 13 with (go_at_call 52; refine CUT.out.mono ?_; rintro e w3 ⟨v3, rfl, hown, hb⟩; have OW := Lib.hid hown; have HB := Lib.hid hb; clear hown hb)
      have MC3 := Lib.hid (MC.out.below HB.out)
      have BX3 := Lib.hid (BX.out.below HB.out)
      have BW3 := Lib.hid (BW.out.call HB.out)
      have qm := BX3.out.cell 0
      simp only [List.getElem?_toArray, List.getElem?_cons_zero] at qm
      obtain ⟨D, hown, hh, ha⟩ := MC3.out
      have HOWN := Lib.hid hown
      have HH := Lib.hid hh
      have HA := Lib.hid ha
      have ML := Lib.hid MC3.out.lt
      have WL := Lib.hid (Nat.lt_of_lt_of_le PS.out (Nat.le_refl _))
      have MB := Lib.hid MC.out.lt
      have BS := Lib.hid BW.out.2
      clear hown hh ha MC MC3 CUT BW
      have BZ : Hid (wr.heap.size ≤ w3.heap.size) := Lib.hid HB.out.size
      generalize wr.heap.size = B at *
      go_upto_region 14 with (at_range; refine wpList_range_own _ rfl _ 90 rfl 9 67 strKeyed Try.underlying90 _ m k D rfl HOWN.out ?_; intro w4 hrg1 hg1 hs1)
      obtain ⟨r, hr⟩ : ∃ r, r = w3.heap.size := ⟨_, rfl⟩
      rw [← hr] at hrg1 hs1 ⊢
      have RW : Hid (w.heap.size ≤ r) := Lib.hid (by rw [hr]; exact BW3.out.2)
      have START : Hid (∃ (left : Lit → Bool) (cnt : Nat) (E : List Ent), w4.ranges Try.prog 9 chElem m r k D left cnt ∧ Mdl.Told (lastC cs) (fun s => left (kl s)) E ∧ (∀ g, v3.ownBlock = some g → ¬ g = r ∧ B ≤ g) ∧ w4.ownsRow B 84 2 v3 (unch (lastC cs) l ++ E).length (flatE (unch (lastC cs) l ++ E)) ∧ Bl w.heap.size w w4) := Lib.hid (by
        have F : Far (fun _ => False) w3 w4 := (Far.refl _ w3).grown hg1 (fun i _ e => by cases e)
        refine ⟨_, _, [], hrg1, Mdl.Told.start HH.out, fun g hg => ?_, by rw [List.append_nil]; exact own_far OW.out F (fun _ _ h => h), Far.bl BW3.out F (fun _ h => h.elim)⟩
        have h1 := own_block OW.out hg
        exact ⟨by omega, h1.1⟩)
      have BR : Hid (B ≤ r) := Lib.hid (by rw [hr]; exact BZ.out)
      have MR : Hid (¬ m = r) := Lib.hid (by have := ML.out; omega)
      clear hr hrg1 hg1 hs1 OW BW3 BX3 qm HOWN
      go_frame
      go_loopw [10] (fun v10 wx => Hid (∃ (left : Lit → Bool) (cnt : Nat) (E : List Ent), wx.ranges Try.prog 9 chElem m r k D left cnt ∧ Mdl.Told (lastC cs) (fun s => left (kl s)) E ∧ (∀ g, v10.ownBlock = some g → ¬ g = r ∧ B ≤ g) ∧ wx.ownsRow B 84 2 v10 (unch (lastC cs) l ++ E).length (flatE (unch (lastC cs) l ++ E)) ∧ Bl w.heap.size w wx)) (fun _ wx => wx.rangeLeft m r)
      case atStart => exact START
      case round =>
        obtain ⟨left, cnt, E, hrg, htd, hob, hown, hbl⟩ := hrel.out
        clear START hrel
        have HRG := Lib.hid hrg
        have TD := Lib.hid htd
        have OB := Lib.hid hob
        have OW := Lib.hid hown
        have BW := Lib.hid hbl
        obtain ⟨nn, hnn⟩ : ∃ nn, nn = (unch (lastC cs) l ++ E).length := ⟨_, rfl⟩
        have NN := Lib.hid hnn
        rw [← hnn] at OW
        obtain ⟨A10, c10, hv10⟩ := own_shape OW.out
        have N0 : Hid (nn ≤ 2000) := Lib.hid (by
          rw [hnn, List.length_append]
          have h3 : (unch (lastC cs) l).length ≤ l.length := List.length_filter_le _ _
          have h4 := TD.out.few
          have := HZ.out
          omega)
        clear hnn
        subst hv10
        clear hrg htd hob hown hbl
        go_wp2_with (first
          | (at_next; refine wpList_next_ranges _ rfl _ rfl 9 strKeyed chElem Value.string chVal (fun _ _ h => key_inv h) (fun _ _ h => by obtain ⟨c, h, _⟩ := chElem_inv h; exact ⟨c, h⟩) m r k D left cnt rfl HRG.out ?_ ?_)
          | go_in)
        · intro _ hl0
          have LZ : Hid (∀ s : ByteArray, (fun s => left (kl s)) s = false) := Lib.hid (fun s => hl0 (kl s))
          have PM2 := Lib.hid (told_perm GD.out.up TD.out LZ.out)
          have NL : Hid (nn = (applyL l cs).length) := Lib.hid (by rw [NN.out]; exact PM2.out.length_eq)
          have CM := Lib.hid (fun W => countMay_any nn W)
          clear hl0
          by_cases h40 : 40 < nn
          · have HA2 : Hid (applyM l cs = ([], 12)) := Lib.hid (by
              unfold applyM
              rw [if_pos H0.out, if_pos (List.all_eq_true.2 OK.out), if_pos (by rw [← NL.out]; exact h40)])
            rw [if_pos h40] at CM
            clear h40
            go_wp2_with (go_at_call 54; refine (CM.out _).mono ?_; rintro e w6 ⟨rfl, rfl⟩)
            go_ret2
            exact ⟨.slice none 0 0, by rw [HA2.out]; rfl, by rw [HA2.out]; exact EsN.nil _ _, BW.out.1⟩
          · have HA2 : Hid (applyM l cs = (applyL l cs, 0)) := Lib.hid (by
              unfold applyM
              rw [if_pos H0.out, if_pos (List.all_eq_true.2 OK.out), if_neg (by rw [← NL.out]; exact h40)])
            rw [if_neg h40] at CM
            clear h40
            have OWS : wr.ownsRow B 84 2 (.slice A10 nn c10) (unch (lastC cs) l ++ E).length (flatE (unch (lastC cs) l ++ E)) := by rw [← NN.out]; exact OW.out
            have SRT := Lib.hid (sort_any wr B (.slice A10 nn c10) _ OWS (by rw [← NN.out]; have := N0.out; omega))
            clear OWS
            go_wp2_with (first
              | (go_at_call 54; refine (CM.out _).mono ?_; rintro e w6 ⟨rfl, rfl⟩)
              | (go_at_call 55; refine SRT.out.mono ?_; rintro e w6 ⟨rfl, l', hp, hpw, hown, hfar⟩; have HP := Lib.hid hp; have HPW := Lib.hid hpw; have OW6 := Lib.hid hown; have FF := Lib.hid hfar; clear hp hpw hown hfar))
            go_ret2
            have hl' := told_sorted GD.out.up TD.out LZ.out HP.out HPW.out
            subst hl'
            refine ⟨_, by rw [HA2.out]; rfl, ?_, (Far.bl BW.out FF.out (fun i e => Nat.le_trans BS.out (OB.out i e).2)).1⟩
            rw [HA2.out]
            have := OW6.out
            rw [PM2.out.length_eq] at this
            exact EsN.of_own this BS.out
        · intro x c lk y ps w5 cnt2 hkey hlk hval hat hrg2 hlt hg2 hs2 hen
          obtain ⟨hxs, rfl⟩ := key_inv2 hkey
          obtain ⟨c2, hce, hye⟩ := chElem_inv hval
          have hhas : Maps.has D (kl x) = true := Maps.has_true_of_atKey (fun z => hat z)
          rw [HH.out x] at hhas
          obtain ⟨c', hf⟩ := Option.isSome_iff_exists.1 hhas
          have hcc : c' = c := by
            have h3 := (HA.out x c' hf).2 (.held c')
            have h4 := hat (.held c')
            rw [h4] at h3
            rw [chElem_val] at hval
            cases hval
            simpa using h3.symm
          subst hcc
          have HF := Lib.hid hf
          have HLK := Lib.hid hlk
          have HLT := Lib.hid hlt
          have F5 : Far (fun i => i = r) wr w5 := (Far.refl _ wr).grown hg2 (fun i _ e => (Option.some.inj e).symm)
          have OW5 := Lib.hid (own_far OW.out F5 (fun i hi e => (OB.out i hi).1 e))
          have BW5 := Lib.hid (Far.bl BW.out F5 (fun i e => by rw [e]; exact RW.out))
          have RG5 := Lib.hid hrg2
          have LF := leftOf left x
          have LFF := Lib.hid LF
          obtain ⟨xk, xv, xg⟩ := c'
          unfold chVal at hen ⊢
          simp only at hen ⊢
          have HX2 := Lib.hid (Blk.new w5 67 #[.string xk, .string xv, .bool xg])
          have RG6 := Lib.hid (RG5.out.alloc (.cells #[.string xk, .string xv, .bool xg] 67))
          have OW6 := Lib.hid (World.ownsRow.alloc OW5.out (.cells #[.string xk, .string xv, .bool xg] 67))
          have BW6 := Lib.hid (BW5.out.alloc (.cells #[.string xk, .string xv, .bool xg] 67))
          clear hkey hlk hval hat hrg2 hlt hg2 hs2 hce hye hhas hf hxs F5 LF RG5 OW5 BW5 OW BW
          go_upto_region 16 with (fail)
          generalize w5.alloc (.cells #[.string xk, .string xv, .bool xg] 67) = w6 at *
          generalize w5.heap.size = g at *
          have e1 := HX2.out.cell 1
          have e2 := HX2.out.cell 2
          simp only [List.getElem?_toArray, List.getElem?_cons_succ, List.getElem?_cons_zero] at e1 e2
          clear hen
          cases xg with
          | true =>
            go_wp2_with fail
            refine ⟨Lib.hid ⟨_, cnt2, E, RG6.out, TD.out.gone HF.out rfl _ LFF.out, OB.out, by rw [← NN.out]; exact OW6.out, BW6.out⟩, ?_⟩
            rw [RG6.out.left_eq, HRG.out.left_eq]
            exact HLT.out
          | false =>
            have BA := Lib.hid (BW6.out.alloc (.cells #[.string x, .string xv] 84))
            have NC := Lib.hid (new_cells w6 84 [.string x, .string xv])
            have RL := Lib.hid RG6.out.lt
            have NB : Hid (B ≤ (w6.alloc (.cells #[.string x, .string xv] 84)).heap.size) := Lib.hid (by have := BR.out; have := RL.out; rw [World.size_alloc]; omega)
            have N1 : Hid (nn + 1 ≤ 1000000) := Lib.hid (by have := N0.out; omega)
            have OM : Hid (∀ y ∈ ([.string x, .string xv] : List Value), y.oneCell' = true) := Lib.hid (one_flatE [⟨x, xv⟩])
            go_wp2_with (first
              | (at_builtin; refine wpList_append_own (k := 2) (T := 84) (S := 43) elemEnts infoEnts rfl (by decide) (by decide) rfl _ _ rfl rfl B _ _ (flatE (unch (lastC cs) l ++ E)) w6.heap.size 0 1 1 [.string x, .string xv] rfl rfl (World.ownsRow.alloc OW6.out _) rfl NC.out OM.out N1.out NB.out ?_; intro v5 wb own5 gr5 hob5)
              | go_in)
            have RG7 := (RG6.out.alloc (.cells #[.string x, .string xv] 84)).kept gr5 (fun e => by have := (OB.out m e.symm).2; have := MB.out; omega) (fun e => (OB.out r e.symm).1 rfl)
            refine ⟨Lib.hid ⟨_, cnt2, E ++ [⟨x, xv⟩], RG7, TD.out.more (c := ⟨xk, xv, false⟩) HF.out rfl HLK.out _ LFF.out, ?_, ?_, ?_⟩, ?_⟩
            · intro i hi
              rcases hob5 with h3 | h3
              · rw [h3] at hi; exact OB.out i hi
              · rw [h3] at hi
                cases hi
                rw [World.size_alloc]
                have := RL.out
                have := BR.out
                exact ⟨by omega, by omega⟩
            · rw [← List.append_assoc, flatE_append, List.length_append, ← NN.out]
              exact own5
            · exact Far.bl BA.out ((Far.refl (fun i => B ≤ i) _).grown gr5 (fun i _ e => (OB.out i e).2)) (fun i h => Nat.le_trans BS.out h)
            · rw [RG7.left_eq, HRG.out.left_eq]
              exact HLT.out
end Go.Proofs.Ytdahhnefcageeaa
