/-
  CanonClosed: the walk.
-/
import Derived.Test.YtfeonjiiijdibaaGreatDoorCanTwice
import Derived.Test.YtfeonjiiijdibaaGreatDoorCanClosedP
import Derived.Test.YtfeonjiiijdibaaGreatDoorCanIn
import Derived.Test.YtfeonjiiijdibaaGreatDoorGaRlp
import Derived.BigQuiet
namespace Go.Proofs.YtfeonjiiijdibaaGreatDoor
open Go.RowKit Go.Proofs.Nod Go.Proofs.Can
open Go.Proofs.Mdl hiding e0
set_option linter.unusedVariables false
set_option linter.unusedSimpArgs false
theorem Strs.take {w : World} {A : Option Addr} {l : List ByteArray} (h : Strs w A l) (i : Nat) : Strs w A (l.take i) := by
  rcases h with h | ⟨b, o, h1, h2, h3⟩
  · exact .inl (by rw [h]; simp)
  · refine .inr ⟨b, o, h1, h2, fun j x hx => h3 j x ?_⟩
    rw [List.getElem?_take] at hx
    split at hx
    · exact hx
    · cases hx
theorem own_le {w : World} {base n m c : Nat} {T : TypeId} {A : Option Addr} {xs : List Value} (h : w.ownsRow base T 1 (.slice A m c) n xs) : m ≤ c := by
  rcases h.2 with ⟨h1, _⟩ | ⟨g, cap, cur, h1, _, _, hle, _⟩
  · cases h1; exact Nat.le_refl _
  · cases h1; exact hle
theorem toldH_snoc (a : List ByteArray) (x : ByteArray) : toldH (a ++ [x]) = toldH a ++ hashes (ndOf x) := by unfold toldH; rw [List.flatMap_append]; simp
/-- Of two rows that lie apart, one grows. -/
theorem two_rows {W w9 : World} {B n8 m : Nat} {T T8 : TypeId} {v7 v8 v9 : Value} {xs8 : List Value} {CS : Array Value} (Q : W.ownsRow B T8 1 v8 n8 xs8) (SEP : ∀ b, v7.ownBlock = some b → v8.ownBlock ≠ some b) (K : Blk W m T CS) (NE : ∀ g, v7.ownBlock = some g → ¬ g = m)
    (F : Far (fun j => v7.ownBlock = some j) W w9) (ho : v9.ownBlock = v7.ownBlock ∨ ∃ g, v9.ownBlock = some g ∧ W.heap.size ≤ g) :
    w9.ownsRow B T8 1 v8 n8 xs8 ∧ (∀ b, v9.ownBlock = some b → v8.ownBlock ≠ some b) ∧ Blk w9 m T CS := by
  refine ⟨own_far Q F (fun b hb e => SEP b e hb), fun b hb e => ?_, K.far F (fun e => NE m e rfl)⟩
  rcases ho with h | ⟨g, h, hg⟩
  · rw [h] at hb
    exact SEP b hb e
  · rw [h] at hb
    cases hb
    have h2 := (Q.lt _ e).2
    omega
theorem toldH_len : ∀ ns : List ByteArray, (toldH ns).length ≤ 16 * ns.length
  | [] => Nat.zero_le _
  | x :: r => by
    have h1 := toldH_len r
    have h2 := hashes_len16 (ndOf x)
    have e : toldH (x :: r) = hashes (ndOf x) ++ toldH r := rfl
    rw [e, List.length_append, List.length_cons]
    omega
set_option maxRecDepth 100000 in
set_option maxHeartbeats 1500000 in
theorem closed_walk (w : World) (hL : LaidN w) (v0 : Value) (l : List Ent) (S0 : Es w v0 l) (hl : l.length ≤ 9223372036854775807) :
    Calls Tryz.prog 6 #[v0] w fun e w' => e = .returned (.bool true) ∧ Below w.heap.size w w' := by
  obtain ⟨A0, c0, rfl⟩ := S0.shape
  have WK := Lib.hid (cworks_any w hL)
  have FL := Lib.hid (fun W (hW : Below w.heap.size w W) => cfewE_any (S0.below hW))
  have HE := Lib.hid S0
  obtain ⟨z, hz⟩ : ∃ z, z = l.length := ⟨_, rfl⟩
  by_cases hg : checkN l = 0
  case neg =>
    have NE := Lib.hid (fun W (hW : Below w.heap.size w W) => nodes_far (S0.below hW) hl hg)
    rw [← hz] at FL NE ⊢
    clear S0 hL hz hl
    generalize checkN l = q at *
    go_enter Tryz.func6, Tryz.ntmps6
    go_wp2_with fail
    refine WK.out.mono ?_
    rintro e w1 ⟨rfl, hb⟩
    have B1 := Lib.hid hb
    clear hb WK
    go_wp2_with fail
    refine (FL.out _ B1.out).mono ?_
    rintro e w2 ⟨⟨bf, rfl, hbf, rfl⟩⟩
    clear hbf FL
    go_wp2_with fail
    refine (NE.out _ B1.out).mono ?_
    rintro e w3 ⟨rfl, hb⟩
    have B3 := Lib.hid (B1.out.trans (hb.mono B1.out.size))
    clear hb NE B1
    cases bf with
    | false =>
      go_wp2_with fail
      go_ret
      exact ⟨rfl, B3.out⟩
    | true =>
      go_wp2_with fail
      go_ret
      exact ⟨rfl, B3.out⟩
  case pos =>
    have gg := good_iff.1 hg
    have ND := Lib.hid (fun W (hW : Below w.heap.size w W) => nodes_ok (S0.below hW) gg (hL.on hW))
    have RO := Lib.hid (fun W (hW : Below w.heap.size w W) => root_ok (S0.below hW) gg (hL.on hW))
    have LA : Hid (∀ W, Below w.heap.size w W → LaidN W) := Lib.hid (fun W h => hL.on h)
    have SZ := Lib.hid (nodesT_size gg)
    have FEW := Lib.hid (nodesT_few gg)
    have NG := Lib.hid (fun y (hy : y ∈ nodesT (treeM l)) => nodes_get gg hy)
    have TA := Lib.hid (told_all gg)
    have AT := Lib.hid (fun i x (hi : 1 ≤ i) (hx : (nodesT (treeM l))[i]? = some x) => all_told gg hi hx)
    have FS : Hid ((nodesT (treeM l))[0]? = some (topM l)) := Lib.hid (nodesT_first (treeM l))
    have OF := Lib.hid (fun (x : ByteArray) W b (hx : x.size ≤ 1000) (hW : LaidN W) (hB : Blk W b 9 #[.string x]) => of_one x b W hW.sha (by omega) hB)
    rw [← hz] at FL ND RO ⊢
    clear S0 hL hz hl hg gg
    generalize nodesT (treeM l) = ns at *
    generalize topM l = R at *
    obtain ⟨n, hn⟩ : ∃ n, n = ns.length := ⟨_, rfl⟩
    have HN := Lib.hid hn
    rw [← hn] at ND FEW
    have GT : Hid (∀ y ∈ ns, ∀ W, LaidN W → Calls Tryz.prog 33 #[.string y] W fun e w' => e = .returned (.tuple #[.agg (ndC (ndOf y)), .int .i64 0]) ∧ Below W.heap.size W w') := Lib.hid (fun y hy W hW => by
      obtain ⟨m, h1, h2, h3⟩ := NG.out y hy
      have := get_any y (by have := SZ.out y hy; omega) W hW.err
      unfold Gtd at this
      rw [h1] at this
      rw [h2]
      exact this)
    have HC : Hid (∀ y ∈ ns, ∀ W, LaidN W → Calls Tryz.prog 35 #[.agg (ndC (ndOf y))] W (Hsh (ndOf y) W)) := Lib.hid (fun y hy W hW => by
      obtain ⟨m, h1, h2, h3⟩ := NG.out y hy
      rw [h2]
      exact hashes_any m h3 W hW.err)
    clear hn NG
    obtain ⟨Z0, hZ0⟩ : ∃ z, z = ndC zeroN := ⟨_, rfl⟩
    have NZ : Hid (Ndc Z0) := Lib.hid (by rw [hZ0]; exact .of _)
    have HZ0 := Lib.hid hZ0
    clear hZ0
    go_enter Tryz.func6, Tryz.ntmps6
    go_wp2_with fail
    refine WK.out.mono ?_
    rintro e w1 ⟨rfl, hb⟩
    have B1 := Lib.hid hb
    clear hb WK
    go_wp2_with fail
    refine (FL.out _ B1.out).mono ?_
    rintro e w2 ⟨⟨bf, rfl, hbf, rfl⟩⟩
    clear hbf FL
    go_wp2_with fail
    refine (ND.out _ B1.out).mono ?_
    rintro e w3 ⟨v3, rfl, hown, hb⟩
    obtain ⟨A3, c3, hv3⟩ := own_shape hown
    rw [HN.out] at hown
    have S3 := Lib.hid (Sl.of_own hown)
    subst hv3
    have CAP := Lib.hid (own_le hown)
    obtain ⟨A', c', hv', hs', -⟩ := S3.out
    simp only [Value.slice.injEq] at hv'
    obtain ⟨rfl, -, rfl⟩ := hv'
    have SS3 := Lib.hid hs'
    clear hs' S3
    have B3 := Lib.hid (B1.out.trans (hb.mono B1.out.size))
    clear hb ND B1 HE hown
    cases bf with
    | false =>
      go_wp2_with fail
      go_ret
      exact ⟨rfl, B3.out⟩
    | true =>
      go_wp2_with fail
      go_loopw [7, 8, 9, 10, 11] (fun v7 v8 vi _ _ wr => ∃ k : Nat, vi = .int .i64 (k : Int) ∧ k ≤ n ∧ Hid (wr.ownsRow w3.heap.size 9 1 v7 k (((ns.take k).map shaB).map Value.string)) ∧ Hid (wr.ownsRow w3.heap.size 9 1 v8 (toldH (ns.take k)).length ((toldH (ns.take k)).map Value.string)) ∧ Hid (∀ b, v7.ownBlock = some b → v8.ownBlock ≠ some b) ∧ Hid (Bl w3.heap.size w3 wr)) (fun _ _ vi _ _ _ => n - (intOf vi).toNat)
      case atStart => exact ⟨0, rfl, Nat.zero_le _, Lib.hid ⟨rfl, .inl ⟨rfl, rfl⟩⟩, Lib.hid ⟨rfl, .inl ⟨rfl, rfl⟩⟩, Lib.hid (fun b h => by cases h), Lib.hid (Bl.start w3)⟩
      case round =>
        obtain ⟨k, rfl, hk, O7, O8, SEP, HB⟩ := hrel
        by_cases hlt : k < n
        · have hkl : k < ns.length := by rw [← HN.out]; exact hlt
          obtain ⟨b, o, rfl, hbl, d0⟩ := (SS3.out.below HB.out.1).at_ k hkl
          obtain ⟨X, hX⟩ : ∃ X, X = ns[k] := ⟨_, rfl⟩
          have XM : Hid (X ∈ ns) := Lib.hid (by rw [hX]; exact List.getElem_mem _)
          have XS : Hid (X.size ≤ 1000) := Lib.hid (SZ.out X XM.out)
          have STEP : Hid (ns.take (k + 1) = ns.take k ++ [X]) := Lib.hid (by rw [List.take_add_one, List.getElem?_eq_getElem hkl, hX]; rfl)
          rw [← hX] at d0
          have HXE := Lib.hid (show ns[k]? = some X by rw [hX]; exact List.getElem?_eq_getElem hkl)
          have GX := Lib.hid (GT.out X XM.out)
          have HX := Lib.hid (HC.out X XM.out)
          have TL : Hid ((toldH (ns.take k)).length ≤ 16 * 1000) := Lib.hid (by have h1 := toldH_len (ns.take k); have h2 := FEW.out; rw [List.length_take] at h1; omega)
          have HL16 := Lib.hid (hashes_len16 (ndOf X))
          have i1 : (k : Int) < (n : Int) := by omega
          have wk : IntKind.i64.wrap ((k : Int) + 1) = (k : Int) + 1 := IntWalk.i64_in _ (by have := FEW.out; omega)
          have LK : Hid (k ≤ 1000) := Lib.hid (by have := FEW.out; omega)
          obtain ⟨A7, c7, hv7⟩ := own_shape O7.out
          obtain ⟨A8, c8, hv8⟩ := own_shape O8.out
          subst hv7
          subst hv8
          obtain ⟨CS, hCS⟩ : ∃ cs, cs = ndC (ndOf X) := ⟨_, rfl⟩
          have NC : Hid (Ndc CS) := Lib.hid (by rw [hCS]; exact .of _)
          rw [← hCS] at GX HX
          clear hX hCS
          go_upto_region 14 with (first
            | (go_at_call 33; refine (GX.out _ (LA.out _ (B3.out.trans (HB.out.1.mono B3.out.size)))).mono ?_; clear GX; rintro e w5 ⟨rfl, hb5⟩;
               have bl := (Bl.setRow ((Bl.start w5).alloc (.cells Z0 51)) (g := w5.heap.size) (Nat.le_refl _) CS).1;
               have A5 := Lib.hid (Blk.new w5 51 Z0); have X5 := Lib.hid ((Blk.new w5 51 Z0).row (cs := CS));
               have P5 := Lib.hid (own_below (own_below O7.out hb5) bl); have Q5 := Lib.hid (own_below (own_below O8.out hb5) bl);
               have NE7 : Hid (∀ g, (Value.slice A7 k c7).ownBlock = some g → ¬ g = w5.heap.size) := Lib.hid (fun g e h => by have := (O7.out.lt g e).2; have := hb5.size; omega);
               have NE8 : Hid (∀ g, (Value.slice A8 (toldH (ns.take k)).length c8).ownBlock = some g → ¬ g = w5.heap.size) := Lib.hid (fun g e h => by have := (O8.out.lt g e).2; have := hb5.size; omega);
               have B5 := Lib.hid (HB.out.call (hb5.trans (bl.mono hb5.size))); clear hb5 bl O7 O8 HB d0 hbl)
            | (refine wpList_alloc_nd rfl (some 10) rfl rfl Z0 HZ0.out w5.heap.size rfl ?_)
            | (refine wpList_store_nd rfl (.tmp 10) (.tmp 45) rfl rfl w5.heap.size CS rfl rfl 51 Z0 A5.out NC.out NZ.out ?_; clear A5;
               generalize (w5.alloc (.cells Z0 51)).setRow w5.heap.size CS = w6 at *; generalize w5.heap.size = m at *))
          have HKL := Lib.hid hkl
          have d6 : w6.cell? ⟨b, o + k, none⟩ = some (.string X) := by
            obtain ⟨b', o', h1, h2, h3⟩ := (SS3.out.below B5.out.1).at_ k HKL.out
            cases h1
            rw [h3]
            have h4 := HXE.out
            rw [List.getElem?_eq_getElem HKL.out] at h4
            rw [Option.some.inj h4]
          have OFX := Lib.hid (OF.out X _ _ XS.out (LA.out _ (B3.out.trans ((B5.out.alloc (.cells #[.string X] 9)).1.mono B3.out.size))) (Blk.new w6 9 #[.string X]))
          have P6 := Lib.hid (World.ownsRow.alloc P5.out (.cells #[.string X] 9))
          have Q6 := Lib.hid (World.ownsRow.alloc Q5.out (.cells #[.string X] 9))
          have X6 := Lib.hid (Blk.below X5.out ((Below.refl _ _).alloc (Nat.le_refl _) (.cells #[.string X] 9)))
          have B6 := Lib.hid (B5.out.alloc (.cells #[.string X] 9))
          have STEP7 : Hid (((ns.take (k + 1)).map shaB).map Value.string = ((ns.take k).map shaB).map Value.string ++ [.string (shaB X)]) := Lib.hid (by rw [STEP.out]; simp)
          have STEP8 : Hid (toldH (ns.take (k + 1)) = toldH (ns.take k) ++ hashes (ndOf X)) := Lib.hid (by rw [STEP.out, toldH_snoc])
          have Hsx : Hid (∀ W e W', Hsh (ndOf X) W e W' → ∃ v, e = .returned v ∧ W'.ownsRow W.heap.size 9 1 v (hashes (ndOf X)).length ((hashes (ndOf X)).map Value.string) ∧ Below W.heap.size W W') := Lib.hid (fun W e W' h => h)
          generalize ((ns.take k).map shaB).map Value.string = T7 at *
          generalize toldH (ns.take k) = T8 at *
          generalize hashes (ndOf X) = hx at *
          generalize shaB X = H at *
          obtain ⟨q, hq⟩ : ∃ q, q = hx.length := ⟨_, rfl⟩
          have HQ := Lib.hid hq
          obtain ⟨t8, ht8⟩ : ∃ q, q = T8.length := ⟨_, rfl⟩
          have HT8 := Lib.hid ht8
          rw [← hq] at Hsx HL16
          rw [← ht8] at Q6 Q5 SEP TL NE8 ⊢
          clear P5 Q5 X5 B5 STEP hq ht8
          go_upto_region 17 with (first
            | (go_at_call 34; refine OFX.out.mono ?_; clear OFX; rintro e w7 ⟨rfl, hb7⟩;
               have P7 := Lib.hid (own_below P6.out hb7); have Q7 := Lib.hid (own_below Q6.out hb7); have X7 := Lib.hid (Blk.below X6.out hb7); have B7 := Lib.hid (B6.out.call hb7); clear hb7 P6 Q6 X6 B6 d6)
            | (at_builtin; refine wpList_append_own (k := 1) (T := 9) (S := 29) elemStr infoStr rfl (by decide) (by decide) rfl _ _ rfl rfl w3.heap.size _ _ T7 w7.heap.size 0 1 1 [.string H] rfl rfl (World.ownsRow.alloc P7.out _) rfl (new_cells w7 9 [.string H]) (by simp [Value.oneCell']) (by have := LK.out; omega) (by simp; have := B7.out.2; omega) ?_; intro v8 w8 hown hgr ho;
               have F : Far (fun j => (Value.slice A7 k c7).ownBlock = some j) w7 w8 := ((Far.refl _ w7).alloc _).grown hgr (fun j _ hj => hj);
               have TW := two_rows Q7.out SEP.out X7.out NE7.out F (ho.imp id (fun h => ⟨_, h, by simp⟩));
               have P8 := Lib.hid hown; have Q8 := Lib.hid TW.1; have SEP8 := Lib.hid TW.2.1; have X8 := Lib.hid TW.2.2; have B8 := Lib.hid ((B7.out.alloc _).grownRow (World.ownsRow.alloc P7.out _) (Nat.le_refl _) hgr);
               clear hown hgr ho F TW P7 Q7 X7 B7 SEP NE7))
          have OMQ : Hid (∀ y ∈ hx.map Value.string, y.oneCell' = true) := Lib.hid (fun y hy => by
            obtain ⟨u, _, rfl⟩ := List.mem_map.1 hy
            rfl)
          have LQ : Hid ((hx.map Value.string).length = q * 1) := Lib.hid (by rw [List.length_map, HQ.out, Nat.mul_one])
          have NQ : Hid (t8 + q ≤ 1000000) := Lib.hid (by have := TL.out; have := HL16.out; omega)
          go_wp2_with (first
            | (refine wpList_load_nd rfl (some 59) rfl (.tmp 10) rfl m rfl 51 CS X8.out NC.out ?_)
            | (go_at_call 35; refine (HX.out _ (LA.out _ (B3.out.trans (B8.out.1.mono B3.out.size)))).mono ?_; clear HX; intro e w9 hh; obtain ⟨v9, he9, own9, hb9⟩ := Hsx.out _ _ _ hh; subst he9; obtain ⟨A9, c9, hv9, hle9, VS9⟩ := Vs.of_own own9 LQ.out; subst hv9;
               have VS := Lib.hid VS9; have P9 := Lib.hid (own_below P8.out hb9); have Q9 := Lib.hid (own_below Q8.out hb9); have X9 := Lib.hid (Blk.below X8.out hb9); have B9 := Lib.hid (B8.out.call hb9); clear hh own9 hb9 hle9 VS9 P8 Q8 X8 B8)
            | (at_builtin; refine wpList_append_shown (k := 1) (T := 9) (S := 29) elemStr infoStr rfl (by decide) (by decide) rfl _ _ rfl rfl w3.heap.size _ _ (T8.map Value.string) A9 q c9 (hx.map Value.string) rfl rfl Q9.out LQ.out VS.out OMQ.out NQ.out B9.out.2 ?_; intro v10 w10 hown hgr ho;
               have F : Far (fun j => (Value.slice A8 t8 c8).ownBlock = some j) w9 w10 := (Far.refl _ w9).grown hgr (fun j _ hj => hj);
               have TW := two_rows P9.out (fun b h e => SEP8.out b e h) X9.out NE8.out F (ho.imp id (fun h => ⟨_, h, Nat.le_refl _⟩));
               have Q10 := Lib.hid hown; have P10 := Lib.hid TW.1; have SEP10 := Lib.hid TW.2.1; have B10 := Lib.hid (B9.out.grownRow Q9.out (Nat.le_refl _) hgr);
               clear hown hgr ho F TW P9 Q9 X9 B9 SEP8 NE8))
          refine ⟨⟨k + 1, rfl, hlt, ?_, ?_, Lib.hid (fun b h e => SEP10.out b e h), B10⟩, by simp [intOf]; omega⟩
          · exact Lib.hid (by rw [STEP7.out]; exact P10.out)
          · exact Lib.hid (by rw [STEP8.out, List.map_append, List.length_append, ← HT8.out, ← HQ.out]; exact Q10.out)
        · have i1 : ¬ (k : Int) < (n : Int) := by omega
          have hkn : k = n := by omega
          subst hkn
          rw [show ns.take k = ns by rw [HN.out, List.take_length]] at O7 O8
          have hml : (ns.map shaB).length = k := by rw [List.length_map, ← HN.out]
          have TL : Hid ((toldH ns).length ≤ 16000) := Lib.hid (by have h1 := toldH_len ns; have h2 := FEW.out; have := HN.out; omega)
          obtain ⟨A7, c7, hv7⟩ := own_shape O7.out
          obtain ⟨A8, c8, hv8⟩ := own_shape O8.out
          subst hv7
          subst hv8
          have T7 : Strs wr A7 (ns.map shaB) := by
            have h := O7.out
            rw [← hml] at h
            obtain ⟨A', c', hv, _, hs⟩ := Strs.of_own h
            simp only [Value.slice.injEq] at hv
            rw [hv.1]
            exact hs
          have T8 : Strs wr A8 (toldH ns) := by
            obtain ⟨A', c', hv, _, hs⟩ := Strs.of_own O8.out
            simp only [Value.slice.injEq] at hv
            rw [hv.1]
            exact hs
          have S8 := Lib.hid T8
          have S3 := Lib.hid (SS3.out.below HB.out.1)
          have hk0 : 0 < k := by
            have := (List.getElem?_eq_some_iff.1 FS.out).1
            have := HN.out
            omega
          have KPOS := Lib.hid (show 1 ≤ k from hk0)
          obtain ⟨b7, o7, rfl, hb7, h70⟩ := T7.at_ 0 (by rw [hml]; exact hk0)
          have S7 := Lib.hid T7
          have B5 := Lib.hid (B3.out.trans (HB.out.1.mono B3.out.size))
          obtain ⟨w5, hw5⟩ : ∃ w5, w5 = wr := ⟨_, rfl⟩
          have INH : Hid (∀ q t, Calls Tryz.prog 36 #[.slice (some ⟨b7, o7, none⟩) k c7, .string t] (wr.drewN q) fun e w' => e = .returned (.bool (inL (ns.map shaB) t)) ∧ w' = wr.drewN q) := Lib.hid (fun q t => by
            have := in_any (w := wr.drewN q) c7 (S7.out.drewN q) (by rw [hml]; have := FEW.out; omega) t
            rw [hml] at this
            exact this)
          have INT : Hid (∀ q t, Calls Tryz.prog 36 #[.slice A8 (toldH ns).length c8, .string t] (wr.drewN q) fun e w' => e = .returned (.bool (inL (toldH ns) t)) ∧ w' = wr.drewN q) := Lib.hid (fun q t => in_any (w := wr.drewN q) c8 (S8.out.drewN q) (by have := TL.out; omega) t)
          have INA : Hid (∀ q i t, i ≤ k → Calls Tryz.prog 36 #[.slice A3 i c3, .string t] (wr.drewN q) fun e w' => e = .returned (.bool (inL (ns.take i) t)) ∧ w' = wr.drewN q) := Lib.hid (fun q i t hi => by
            have hl : (ns.take i).length = i := by rw [List.length_take, ← HN.out]; omega
            have := in_any (w := wr.drewN q) c3 ((S3.out.take i).drewN q) (by rw [hl]; have := FEW.out; omega) t
            rw [hl] at this
            exact this)
          obtain ⟨t8, ht8⟩ : ∃ q, q = (toldH ns).length := ⟨_, rfl⟩
          have HT8 := Lib.hid ht8
          rw [← ht8] at INT TL ⊢
          clear O7 O8 hml T7 T8 SEP h70 hb7 ht8 i1 hw5 HB SS3 hk0
          go_wp2_with fail
          go_loopw [12] (fun vi wx => ∃ i : Nat, vi = .int .i64 (i : Int) ∧ i ≤ t8 ∧ Hid (wx = wr)) (fun vi _ => t8 - (intOf vi).toNat)
          case atStart => exact ⟨0, rfl, Nat.zero_le _, Lib.hid rfl⟩
          case round =>
            obtain ⟨i, rfl, hi, HW⟩ := hrel
            obtain rfl := HW.out
            clear HW
            by_cases hit : i < t8
            · obtain ⟨b8, o8, rfl, hb8, d8⟩ := S8.out.at_ i (by rw [← HT8.out]; exact hit)
              obtain ⟨t, ht⟩ : ∃ t, t = (toldH ns)[i]'(by rw [← HT8.out]; exact hit) := ⟨_, rfl⟩
              rw [← ht] at d8
              have IN1 := Lib.hid (INH.out 0 t)
              rw [inL_yes (TA.out t (by rw [ht]; exact List.getElem_mem _))] at IN1
              have i2 : (i : Int) < (t8 : Int) := by omega
              have wi : IntKind.i64.wrap ((i : Int) + 1) = (i : Int) + 1 := IntWalk.i64_in _ (by have := TL.out; omega)
              clear ht
              go_wp2_with (first | (go_at_call 36; refine IN1.out.mono ?_; clear IN1; rintro e w6 ⟨rfl, rfl⟩))
              exact ⟨⟨i + 1, rfl, hit, Lib.hid rfl⟩, by simp [intOf]; omega⟩
            · have i2 : ¬ (i : Int) < (t8 : Int) := by omega
              obtain ⟨wo, hwo⟩ : ∃ wo, wo = wr := ⟨_, rfl⟩
              subst hwo
              go_wp2_with fail
              go_loopw [13] (fun vi wx => ∃ j : Nat, vi = .int .i64 (j : Int) ∧ 1 ≤ j ∧ j ≤ k ∧ Hid (∃ q, wx = wo.drewN q)) (fun vi _ => k - (intOf vi).toNat)
              case atStart => exact ⟨1, rfl, Nat.le_refl _, KPOS.out, Lib.hid ⟨0, rfl⟩⟩
              case round =>
                obtain ⟨j, rfl, hj1, hj, HQ⟩ := hrel
                by_cases hjk : j < k
                · obtain ⟨X, hX⟩ : ∃ X, ns[j]? = some X := ⟨_, List.getElem?_eq_getElem (by rw [← HN.out]; exact hjk)⟩
                  obtain ⟨a1, a2, a3⟩ := AT.out j X hj1 hX
                  have hXe : ns[j]'(by rw [← HN.out]; exact hjk) = X := by
                    have := List.getElem?_eq_getElem (l := ns) (i := j) (by rw [← HN.out]; exact hjk)
                    rw [hX] at this
                    exact (Option.some.inj this).symm
                  have W3 : Strs wr A3 ns := by obtain ⟨q, hq⟩ := HQ.out; rw [hq]; exact S3.out.drewN q
                  have W7 : Strs wr (some ⟨b7, o7, none⟩) (ns.map shaB) := by obtain ⟨q, hq⟩ := HQ.out; rw [hq]; exact S7.out.drewN q
                  obtain ⟨b3, o3, h3, _, d3⟩ := W3.at_ j (by rw [← HN.out]; exact hjk)
                  obtain ⟨b4, o4, h4, _, d7⟩ := W7.at_ j (by rw [List.length_map, ← HN.out]; exact hjk)
                  cases h4
                  subst h3
                  rw [hXe] at d3
                  rw [List.getElem_map, hXe] at d7
                  have I1 := Lib.hid (fun q => INT.out q (shaB X))
                  rw [inL_yes a1] at I1
                  have I2 := Lib.hid (fun q => INA.out q j X hj)
                  rw [inL_no a3] at I2
                  have C1 : Hid (∀ n, Calls Tryz.prog 36 #[.slice A8 t8 c8, .string (shaB X)] (wr.drewN n) fun e w' => e = .returned (.bool true) ∧ ∃ m, w' = wr.drewN m) := Lib.hid (fun n => by
                    obtain ⟨q, hq⟩ := HQ.out
                    have := I1.out (q + n)
                    rw [← World.drewN_drewN, ← hq] at this
                    exact this.mono (fun e w' h => ⟨h.1, n, h.2⟩))
                  have C2 : Hid (∀ n, Calls Tryz.prog 36 #[.slice (some ⟨b3, o3, none⟩) j c3, .string X] (wr.drewN n) fun e w' => e = .returned (.bool false) ∧ ∃ m, w' = wr.drewN m) := Lib.hid (fun n => by
                    obtain ⟨q, hq⟩ := HQ.out
                    have := I2.out (q + n)
                    rw [← World.drewN_drewN, ← hq] at this
                    exact this.mono (fun e w' h => ⟨h.1, n, h.2⟩))
                  have hd : decide ((X.size : Int) < 32) = false := decide_eq_false (by omega)
                  have SLH := slice_high b3 o3 k c3 j (by have := CAP.out; omega) (by have := CAP.out; omega)
                  have i3 : (j : Int) < (k : Int) := by omega
                  have wj : IntKind.i64.wrap ((j : Int) + 1) = (j : Int) + 1 := IntWalk.i64_in _ (by have := FEW.out; have := HN.out; omega)
                  clear a1 a2 a3 hXe hX I1 I2 W3 W7
                  generalize shaB X = H at *
                  go_wp2_with fail
                  go_quiet (first | (go_at_call 36; with_reducible exact C1.out _) | (go_at_call 36; with_reducible exact C2.out _))
                  go_wp2_with fail
                  refine ⟨⟨j + 1, rfl, by omega, hjk, Lib.hid ?_⟩, by simp [intOf]; omega⟩
                  obtain ⟨q, hq⟩ := HQ.out
                  exact ⟨q + _, by rw [hq, World.drewN_drewN]⟩
                · have i3 : ¬ (j : Int) < (k : Int) := by omega
                  have k1 : (k : Int) ≥ 1 := by have := KPOS.out; omega
                  have BQ : Hid (Below w.heap.size w wr) := Lib.hid (by obtain ⟨q, hq⟩ := HQ.out; rw [hq]; exact ((show Bl w.heap.size w wo from ⟨B5.out, B5.out.size⟩).drewN q).1)
                  have W7 := Lib.hid (show Strs wr (some ⟨b7, o7, none⟩) (ns.map shaB) by obtain ⟨q, hq⟩ := HQ.out; rw [hq]; exact S7.out.drewN q)
                  go_wp2_with fail
                  refine (RO.out _ BQ.out).mono ?_
                  rintro e w9 ⟨rfl, hb⟩
                  have B9 := Lib.hid (BQ.out.trans (hb.mono BQ.out.size))
                  obtain ⟨b4, o4, h4, _, d7⟩ := (W7.out.below hb).at_ 0 (by rw [List.length_map, ← HN.out]; exact KPOS.out)
                  cases h4
                  have hR : (ns.map shaB)[0]'(by rw [List.length_map, ← HN.out]; exact KPOS.out) = shaB R := by
                    rw [List.getElem_map]
                    have h1 := FS.out
                    rw [List.getElem?_eq_getElem (by rw [← HN.out]; exact KPOS.out)] at h1
                    rw [Option.some.inj h1]
                  rw [hR, Nat.add_zero] at d7
                  clear hb hR
                  generalize shaB R = H at *
                  go_wp2_with fail
                  go_ret
                  exact ⟨rfl, B9.out⟩
end Go.Proofs.YtfeonjiiijdibaaGreatDoor
