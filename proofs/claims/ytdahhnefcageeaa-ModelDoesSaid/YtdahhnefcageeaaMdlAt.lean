/-
  Package model: At, Between, New.
-/
import Derived.Test.YtdahhnefcageeaaMdlValid
namespace Go.Proofs.Mdl
open Go.Proofs.Ytdahhnefcageeaa
def verB (M : Mod) (b : Int) : Option Ver := (idxB M.all b).bind (fun k => M.all[k]?)
def atM (M : Mod) (b : Int) : List Ent × Int := if validM M then (match verB M b with | some V => (V.e, 0) | none => ([], 4)) else ([], 1)
def betweenM (M : Mod) (a b : Int) : List Chg × Int := if (atM M a).2 = 0 then (if (atM M b).2 = 0 then (diffM (atM M a).1 (atM M b).1, 0) else ([], (atM M b).2)) else ([], (atM M a).2)
def newM (n : Int) : Mod := ⟨min (max n 1) 8, 1, [⟨0, [], [], 0⟩]⟩
end Go.Proofs.Mdl
namespace Go.Proofs.Ytdahhnefcageeaa
open Go.RowKit Go.Proofs.Mdl
set_option linter.unusedVariables false
set_option linter.unusedSimpArgs false
theorem verB_none {M : Mod} {b : Int} (h : verB M b = none) : idxB M.all b = none := by
  cases hi : idxB M.all b with
  | none => rfl
  | some k =>
    obtain ⟨V, hV, _⟩ := idxB_get hi
    unfold verB at h
    rw [hi] at h
    simp only [Option.bind_some] at h
    rw [hV] at h
    cases h
theorem verB_some {M : Mod} {b : Int} {V : Ver} (h : verB M b = some V) : ∃ k, idxB M.all b = some k ∧ M.all[k]? = some V := by
  unfold verB at h
  cases hi : idxB M.all b with
  | none => rw [hi] at h; cases h
  | some k => rw [hi] at h; exact ⟨k, rfl, h⟩
set_option maxRecDepth 100000 in
set_option maxHeartbeats 2000000 in
theorem at_any {N : Nat → Prop} {w : World} {v : Value} {M : Mod} {blk : Int} (h : Md N w v M) (hl : M.all.length ≤ 1000) (hle : ∀ V ∈ M.all, V.e.length ≤ 1000) :
    Calls Try.prog 18 #[v, .int .i64 blk] w fun e w' => ∃ v', e = .returned (.tuple #[v', .int .i64 (atM M blk).2]) ∧ EsN (fun b => w.heap.size ≤ b) w' v' (atM M blk).1 ∧ Below w.heap.size w w' := by
  have H := Lib.hid h
  obtain ⟨u, rfl, hv⟩ := h
  obtain ⟨A, c, rfl⟩ := hv.shape
  have B1 := Lib.hid (Blk.new w 24 #[.int .i64 M.w, .int .i64 M.n, .slice A M.all.length c])
  have bb : Below w.heap.size w (w.alloc (.cells #[.int .i64 M.w, .int .i64 M.n, .slice A M.all.length c] 24)) := (Below.refl _ _).alloc (Nat.le_refl _) _
  have BB := Lib.hid bb
  have VD := Lib.hid (valid_any (H.out.below bb) hl hle)
  clear hv bb
  cases hvd : validM M with
  | false =>
    have HA : Hid (atM M blk = ([], 1)) := Lib.hid (by unfold atM; rw [hvd]; rfl)
    rw [hvd] at VD
    rw [HA.out]
    clear hvd
    go_enter Try.func18, Try.ntmps18
    go_wp2_with (go_at_call 17; refine VD.out.mono ?_; rintro e w2 ⟨rfl, hb⟩; have HB := Lib.hid hb; clear hb)
    go_ret2
    exact ⟨_, rfl, EsN.nil _ _, BB.out.trans (Below.mono HB.out BB.out.size)⟩
  | true =>
    rw [hvd] at VD
    cases hve : verB M blk with
    | none =>
      have HA : Hid (atM M blk = ([], 4)) := Lib.hid (by unfold atM; rw [hvd, hve]; rfl)
      have FN := Lib.hid (fun W (hW : Below w.heap.size w W) => find_none (H.out.below hW) (verB_none hve) hl)
      rw [HA.out]
      unfold noSpot at FN
      clear hvd hve
      go_enter Try.func18, Try.ntmps18
      go_wp2_with (first
        | (go_at_call 17; refine VD.out.mono ?_; rintro e w2 ⟨rfl, hb⟩; have HB := Lib.hid (BB.out.trans (Below.mono hb BB.out.size)); have q0 := (B1.out.below hb).cell 0; have q1 := (B1.out.below hb).cell 1; have q2 := (B1.out.below hb).cell 2; simp only [List.getElem?_toArray, List.getElem?_cons_succ, List.getElem?_cons_zero] at q0 q1 q2; clear hb)
        | (go_at_call 40; refine (FN.out _ HB.out).mono ?_; rintro e w3 ⟨rfl, hb⟩; have HB3 := Lib.hid (HB.out.trans (Below.mono hb HB.out.size)); clear hb))
      go_ret2
      exact ⟨_, rfl, EsN.nil _ _, HB3.out.alloc HB3.out.size _⟩
    | some V =>
      obtain ⟨k, hk, hV⟩ := verB_some hve
      have HA : Hid (atM M blk = (V.e, 0)) := Lib.hid (by unfold atM; rw [hvd, hve]; rfl)
      have FS := Lib.hid (fun W (hW : Below w.heap.size w W) => find_some (H.out.below hW) hk hV hl)
      have LV := Lib.hid (hle V (List.mem_of_getElem? hV))
      rw [HA.out]
      clear hvd hve hk hV
      go_enter Try.func18, Try.ntmps18
      go_wp2_with (first
        | (go_at_call 17; refine VD.out.mono ?_; rintro e w2 ⟨rfl, hb⟩; have HB := Lib.hid (BB.out.trans (Below.mono hb BB.out.size)); have q0 := (B1.out.below hb).cell 0; have q1 := (B1.out.below hb).cell 1; have q2 := (B1.out.below hb).cell 2; simp only [List.getElem?_toArray, List.getElem?_cons_succ, List.getElem?_cons_zero] at q0 q1 q2; clear hb)
        | (go_at_call 40; refine (FS.out _ HB.out).mono ?_; rintro e w3 ⟨ve, vc, rfl, hes, hcs, hb⟩; have HB3 := Lib.hid (HB.out.trans (Below.mono hb HB.out.size)); obtain ⟨Ae, ce, hve⟩ := hes.toEs.shape; obtain ⟨Ac, cc, hvc⟩ := hcs.toCs.shape; subst hve; subst hvc; have BB3 := Lib.hid (HB3.out.alloc HB3.out.size (.cells #[.int .i64 V.b, .slice Ae V.e.length ce, .slice Ac V.c.length cc, .int .i64 V.p, .int .i64 (k : Int)] 79)); have CL := Lib.hid (cloneE_any (hes.below ((Below.refl _ _).alloc (Nat.le_refl _) (.cells #[.int .i64 V.b, .slice Ae V.e.length ce, .slice Ac V.c.length cc, .int .i64 V.p, .int .i64 (k : Int)] 79))) LV.out); clear hb hes hcs)
        | (go_at_call 41; refine CL.out.mono ?_; rintro e w4 ⟨v4, rfl, hes, hb⟩; have ES4 := Lib.hid hes; have HB4 := Lib.hid hb; clear hes hb))
      go_ret2
      exact ⟨_, rfl, ES4.out.mono (fun b hb _ => Nat.le_trans BB3.out.size hb), BB3.out.trans (Below.mono HB4.out BB3.out.size)⟩
theorem atM_cases (M : Mod) (b : Int) : (atM M b).2 = 0 ∨ (atM M b).2 = 1 ∨ (atM M b).2 = 4 := by
  unfold atM
  split
  · split
    · exact .inl rfl
    · exact .inr (.inr rfl)
  · exact .inr (.inl rfl)
theorem atM_len {M : Mod} {b : Int} (hle : ∀ V ∈ M.all, V.e.length ≤ 1000) : (atM M b).1.length ≤ 1000 := by
  unfold atM
  split
  · split
    · next V hV =>
      obtain ⟨k, _, h⟩ := verB_some hV
      exact hle V (List.mem_of_getElem? h)
    · exact Nat.zero_le _
  · exact Nat.zero_le _
set_option maxRecDepth 100000 in
set_option maxHeartbeats 2000000 in
theorem between_any {N : Nat → Prop} {w : World} {v : Value} {M : Mod} {a b : Int} (h : Md N w v M) (hl : M.all.length ≤ 1000) (hle : ∀ V ∈ M.all, V.e.length ≤ 1000) :
    Calls Try.prog 20 #[v, .int .i64 a, .int .i64 b] w fun e w' => ∃ v', e = .returned (.tuple #[v', .int .i64 (betweenM M a b).2]) ∧ CsN (fun b => w.heap.size ≤ b) w' v' (betweenM M a b).1 ∧ Below w.heap.size w w' := by
  have H := Lib.hid h
  have AT := Lib.hid (fun W (hW : Below w.heap.size w W) (x : Int) => at_any (blk := x) (H.out.below hW) hl hle)
  have LA := Lib.hid (atM_len (b := a) hle)
  have LB := Lib.hid (atM_len (b := b) hle)
  obtain ⟨u, rfl, hv⟩ := h
  obtain ⟨A, c, rfl⟩ := hv.shape
  have B1 := Lib.hid (Blk.new w 24 #[.int .i64 M.w, .int .i64 M.n, .slice A M.all.length c])
  have BB : Hid (Below w.heap.size w (w.alloc (.cells #[.int .i64 M.w, .int .i64 M.n, .slice A M.all.length c] 24))) := Lib.hid ((Below.refl _ _).alloc (Nat.le_refl _) _)
  clear hv
  have A1 := Lib.hid (AT.out _ BB.out a)
  obtain ⟨x, hx⟩ : ∃ x, x = atM M a := ⟨_, rfl⟩
  have ca := atM_cases M a
  have HXA := Lib.hid hx
  rw [← hx] at A1 LA ca
  obtain ⟨xl, xe⟩ := x
  simp only at A1 LA ca
  clear hx
  have A2 := Lib.hid (fun W (hW : Below w.heap.size w W) => AT.out W hW b)
  obtain ⟨y, hy⟩ : ∃ y, y = atM M b := ⟨_, rfl⟩
  have cb := atM_cases M b
  have HYA := Lib.hid hy
  rw [← hy] at A2 LB cb
  obtain ⟨yl, ye⟩ := y
  simp only at A2 LB cb
  clear hy AT
  by_cases hxe : xe = 0
  · subst hxe
    by_cases hye : ye = 0
    · subst hye
      have HB : Hid (betweenM M a b = (diffM xl yl, 0)) := Lib.hid (by unfold betweenM; rw [← HXA.out, ← HYA.out]; rfl)
      rw [HB.out]
      clear ca cb
      go_enter Try.func20, Try.ntmps20
      go_upto_region 2 with (go_at_call 18; refine A1.out.mono ?_; rintro e w2 ⟨va, rfl, hes, hb⟩; have E2 := Lib.hid hes; have F2 := Lib.hid (BB.out.trans (Below.mono hb BB.out.size)); have q0 := (B1.out.below hb).cell 0; have q1 := (B1.out.below hb).cell 1; have q2 := (B1.out.below hb).cell 2; simp only [List.getElem?_toArray, List.getElem?_cons_succ, List.getElem?_cons_zero] at q0 q1 q2; clear hb hes)
      go_upto_region 5 with (go_at_call 18; refine (A2.out _ F2.out).mono ?_; rintro e w3 ⟨vb, rfl, hes, hb⟩; have E3 := Lib.hid hes; have E23 := Lib.hid (E2.out.below hb); have F3 := Lib.hid (F2.out.trans (Below.mono hb F2.out.size)); clear hb hes)
      have DF := Lib.hid (diff_any E23.out.toEs E3.out.toEs LA.out LB.out)
      go_wp2_with (go_at_call 43; refine DF.out.mono ?_; rintro e w4 ⟨v4, rfl, hcs, hb⟩; have C4 := Lib.hid hcs; have F4 := Lib.hid hb; clear hcs hb)
      go_ret2
      exact ⟨_, rfl, C4.out.mono (fun b hb _ => Nat.le_trans F3.out.size hb), F3.out.trans (Below.mono F4.out F3.out.size)⟩
    · have HB : Hid (betweenM M a b = ([], ye)) := Lib.hid (by unfold betweenM; rw [← HXA.out, ← HYA.out]; simp [hye])
      rw [HB.out]
      have hy2 : ye = 1 ∨ ye = 4 := by rcases cb with h | h | h <;> first | exact absurd h hye | exact .inl h | exact .inr h
      clear ca cb hye
      rcases hy2 with rfl | rfl
      all_goals
        go_enter Try.func20, Try.ntmps20
        go_upto_region 2 with (go_at_call 18; refine A1.out.mono ?_; rintro e w2 ⟨va, rfl, hes, hb⟩; have F2 := Lib.hid (BB.out.trans (Below.mono hb BB.out.size)); have q0 := (B1.out.below hb).cell 0; have q1 := (B1.out.below hb).cell 1; have q2 := (B1.out.below hb).cell 2; simp only [List.getElem?_toArray, List.getElem?_cons_succ, List.getElem?_cons_zero] at q0 q1 q2; clear hb hes)
        go_wp2_with (go_at_call 18; refine (A2.out _ F2.out).mono ?_; rintro e w3 ⟨vb, rfl, hes, hb⟩; have F3 := Lib.hid (F2.out.trans (Below.mono hb F2.out.size)); clear hb hes)
        go_ret2
        exact ⟨_, rfl, CsN.nil _ _, F3.out⟩
  · have HB : Hid (betweenM M a b = ([], xe)) := Lib.hid (by unfold betweenM; rw [← HXA.out]; simp only; rw [if_neg hxe])
    rw [HB.out]
    have hx2 : xe = 1 ∨ xe = 4 := by rcases ca with h | h | h <;> first | exact absurd h hxe | exact .inl h | exact .inr h
    clear ca cb hxe
    rcases hx2 with rfl | rfl
    all_goals
      go_enter Try.func20, Try.ntmps20
      go_wp2_with (go_at_call 18; refine A1.out.mono ?_; rintro e w2 ⟨va, rfl, hes, hb⟩; have F2 := Lib.hid (BB.out.trans (Below.mono hb BB.out.size)); clear hb hes)
      go_ret2
      exact ⟨_, rfl, CsN.nil _ _, F2.out⟩
theorem new_any (n : Int) (w : World) : Calls Try.prog 25 #[.int .i64 n] w fun e w' => ∃ v', e = .returned v' ∧ Md (fun b => w.heap.size ≤ b) w' v' (newM n) ∧ Below w.heap.size w w' := by
  go_enter Try.func25, Try.ntmps25
  go_wp2_with fail
  obtain ⟨W, g, p, hW, hg, hp, hb, b1, b2⟩ := two_boxes w 24 62 #[.int .i64 (min (max n 1) 8), .int .i64 1, .slice (some ⟨w.heap.size + 1, 0, none⟩) 1 1] #[.int .i64 0, .slice none 0 0, .slice none 0 0, .int .i64 0]
  rw [← hW]
  rw [hg] at b1
  refine bodyPost_ret (results_m1 rfl _ _ _ rfl b1) rfl ?_
  refine ⟨_, rfl, ⟨_, rfl, ?_⟩, hb⟩
  rw [hp] at b2
  exact Vl.of_blk (rs := [⟨0, .slice none 0 0, .slice none 0 0, 0⟩]) b2 (Rv.single ⟨rfl, rfl, EsN.nil _ _, CsN.nil _ _⟩) (Nat.le_succ _) (Nat.le_refl _)
end Go.Proofs.Ytdahhnefcageeaa
