/-
  Package canon: slices.SortFunc at entries, by their keys.
-/
import Derived.Test.YtdahhnefcageeaaMdlLay
import Derived.Test.YtdahhnefcageeaaMdlMap
import Derived.Handy
namespace Go.Proofs.Ytdahhnefcageeaa
open Go.RowKit Go.Proofs.Mdl Go.Sort
set_option linter.unusedVariables false
set_option linter.unusedSimpArgs false
instance : Inhabited Ent := ⟨⟨e0, e0⟩⟩
def cmpK (x y : ByteArray) : Int := if ltB x y then -1 else if ltB y x then 1 else 0
def cmpE (x y : Ent) : Int := cmpK x.k y.k
theorem ltOf_cmpE (x y : Ent) : ltOf cmpE x y = ltB x.k y.k := by
  unfold ltOf cmpE cmpK
  by_cases h : ltB x.k y.k = true
  · simp [h]
  · rw [if_neg h]
    have : ltB x.k y.k = false := by simpa using h
    rw [this]
    split <;> simp
theorem swoE : SWO (ltOf cmpE) where
  irrefl x := by rw [ltOf_cmpE]; exact ltB_irrefl _
  trans x y z h1 h2 := by rw [ltOf_cmpE] at *; exact ltB_trans h1 h2
  ntrans x y z h1 h2 := by
    rw [ltOf_cmpE] at *
    rw [Bool.eq_false_iff]
    intro h3
    cases h4 : ltB y.k x.k with
    | true =>
      have := ltB_trans h4 h3
      rw [h2] at this
      cases this
    | false =>
      have e := ltB_conn h1 h4
      rw [e, h2] at h3
      cases h3
theorem nanS_any (x : ByteArray) (w : World) : Calls Try.prog 72 #[.string x] w fun e w' => e = .returned (.bool false) ∧ w = w' := by
  have h : (x.toList == x.toList) = true := by simp
  go_enter Try.func72, Try.ntmps72
  go_wp2_with fail
  go_ret
  exact ⟨rfl, rfl⟩
theorem cmpS_any (x y : ByteArray) (w : World) : Calls Try.prog 57 #[.string x, .string y] w fun e w' => e = .returned (.int .i64 (cmpK x y)) ∧ w = w' := by
  have NAN := Lib.hid (fun x w => nanS_any x w)
  cases h : ltB x y with
  | true =>
    have hr : cmpK x y = -1 := by unfold cmpK; rw [if_pos h]
    rw [hr]
    clear hr
    unfold ltB at h
    go_enter Try.func57, Try.ntmps57
    go_wp2_with (go_at_call 72; refine (NAN.out _ _).mono ?_; rintro e w1 ⟨rfl, rfl⟩)
    go_ret
    exact ⟨rfl, rfl⟩
  | false =>
    cases h2 : ltB y x with
    | true =>
      have hr : cmpK x y = 1 := by unfold cmpK; rw [if_neg (by rw [h]; simp), if_pos h2]
      rw [hr]
      clear hr
      have hne : (x.toList == y.toList) = false := by
        rw [Lib.toList_data, Lib.toList_data]
        rw [beq_eq_false_iff_ne]
        intro e
        have e2 := bytes_ext e
        subst e2
        rw [h] at h2
        cases h2
      unfold ltB at h h2
      go_enter Try.func57, Try.ntmps57
      go_wp2_with (go_at_call 72; refine (NAN.out _ _).mono ?_; rintro e w1 ⟨rfl, rfl⟩)
      go_ret
      exact ⟨rfl, rfl⟩
    | false =>
      have hr : cmpK x y = 0 := by unfold cmpK; rw [if_neg (by rw [h]; simp), if_neg (by rw [h2]; simp)]
      rw [hr]
      clear hr
      have hne : (x.toList == y.toList) = true := by
        rw [Lib.toList_data, Lib.toList_data]
        rw [ltB_conn h h2]
        simp
      unfold ltB at h h2
      go_enter Try.func57, Try.ntmps57
      go_wp2_with (go_at_call 72; refine (NAN.out _ _).mono ?_; rintro e w1 ⟨rfl, rfl⟩)
      go_ret
      exact ⟨rfl, rfl⟩
theorem byKey_any (x y : Ent) (W : World) : Calls Try.prog 56 #[.agg #[.string x.k, .string x.v], .agg #[.string y.k, .string y.v]] W fun e w' => e = .returned (.int .i64 (cmpE x y)) ∧ ∃ q os', w' = grow (W.drewN q) os' := by
  have CMP := Lib.hid (fun W => cmpS_any x.k y.k W)
  unfold cmpE
  generalize cmpK x.k y.k = r at CMP ⊢
  obtain ⟨xk, xv⟩ := x
  obtain ⟨yk, yv⟩ := y
  replace CMP : Hid (∀ W, Calls Try.prog 57 #[.string xk, .string yk] W fun e w' => e = .returned (.int .i64 r) ∧ W = w') := CMP
  go_enter Try.func56, Try.ntmps56
  go_wp2_with (go_at_call 57; refine (CMP.out _).mono ?_; rintro e w1 ⟨rfl, rfl⟩)
  go_ret
  exact ⟨rfl, 0, _, by rw [alloc_eq_grow, alloc_eq_grow, grow_grow]; rfl⟩
theorem flatE_get : ∀ (l : List Ent) (t : Nat), t < l.length * 2 → (flatE l)[t]? = (cellE (l.toArray[t / 2]!))[t % 2]?
  | [], t, h => by simp at h
  | e :: r, 0, h => rfl
  | e :: r, 1, h => rfl
  | e :: r, t + 2, h => by
    have := flatE_get r t (by simp at h; omega)
    rw [flatE_cons, List.getElem?_append_right (by simp [cellE])]
    rw [show t + 2 - (cellE e).length = t by simp [cellE], this, show (t + 2) / 2 = t / 2 + 1 by omega, show (t + 2) % 2 = t % 2 by omega]
    congr 1
    simp [getElem!_def]
theorem flatK_eq (l : List Ent) : flatK cellE 2 l.toArray = (flatE l).toArray := by
  refine ext_get! (by simp [flatE_length]) fun t ht => ?_
  have ht' : t < l.length * 2 := by simpa using ht
  rw [get_flatK _ _ _ t (by simpa using ht')]
  have h1 := flatE_get l t ht'
  rw [getElem!_def (flatE l).toArray, getElem!_def (cellE _)]
  simp only [List.getElem?_toArray]
  rw [h1]
section
variable {w : World} {g n : Nat} {os : Array Obj} {cur : Array Value} {e : TypeId} {fr : Nat × Nat}
theorem heap_sortedV (d : Array Value) (hb : w.heap[g]? = some (.cells cur e fr)) : (Sort.grow (putRow id (Sort.ahead w n) g 0 d) os).heap[g]? = some (.cells (putCells id 0 d cur) e fr) := by
  have hg : g < w.heap.size := (Array.getElem?_eq_some_iff.1 hb).1
  rw [heap_grow_old _ _ (by simpa using hg)]
  simp [putRow, mapBlock, Sort.ahead, Array.getElem?_modify, hb, onCells]
theorem far_sortedV (d : Array Value) : Far (fun i => i = g) w (Sort.grow (putRow id (Sort.ahead w n) g 0 d) os) := by
  refine ⟨rfl, rfl, rfl, by simp, fun k hk hne => ?_⟩
  rw [heap_grow_old _ _ (by simpa using hk)]
  have : g ≠ k := fun e => hne e.symm
  simp [putRow, mapBlock, Sort.ahead, Array.getElem?_modify, this]
theorem take_putCellsV (cur : Array Value) (ts : List Value) (h : ts.length ≤ cur.size) : (putCells id 0 ts.toArray cur).toList.take ts.length = ts := by
  apply List.ext_getElem?
  intro j
  by_cases hj : j < ts.length
  · rw [List.getElem?_take_of_lt hj, Array.getElem?_toList]
    simp [putCells, hj, show j < cur.size by omega]
  · rw [List.getElem?_take_eq_none (by omega), List.getElem?_eq_none (by omega)]
end
theorem up_perm {l l' : List Ent} (hp : l'.Perm l) (hd : (l.map (·.k)).Nodup) (hs : l'.Pairwise (fun x y => ltB y.k x.k = false)) : Up l' := by
  have hd' : (l'.map (·.k)).Nodup := (hp.map _).nodup_iff.2 hd
  rw [List.Nodup, List.pairwise_map] at hd'
  refine List.Pairwise.imp₂ (fun x y h1 h2 => ?_) hs hd'
  cases h3 : ltB x.k y.k with
  | true => rfl
  | false => exact absurd (ltB_conn h3 h1) h2
theorem sortedIn_pw {l' : List Ent} (h : SortedIn (ltOf cmpE) 0 l'.length l'.toArray) : l'.Pairwise (fun x y => ltB y.k x.k = false) := by
  rw [List.pairwise_iff_getElem]
  intro i j hi hj hij
  have := h i j (Nat.zero_le _) hij hj
  rw [ltOf_cmpE] at this
  simpa [getElem!_def, hi, hj] using this
set_option maxHeartbeats 2000000 in
theorem isort_none (cap : Nat) (fv : Value) (w : World) : Calls Try.prog 75 #[.slice none 0 cap, .int .i64 0, .int .i64 0, fv] w fun e w' => e = .returned (.tuple #[]) ∧ w' = w := by
  go_enter Try.func75, Try.ntmps75
  go_wp2
  refine wp_loop_rounds 1 ?_
  rw [rounds_succ]
  go_wp2
  go_end0
  exact ⟨rfl, rfl⟩
set_option maxHeartbeats 2000000 in
theorem pdq_none (cap : Nat) (lim : Int) (fv : Value) (w : World) : Calls Try.prog 70 #[.slice none 0 cap, .int .i64 0, .int .i64 0, .int .i64 lim, fv] w fun e w' => e = .returned (.tuple #[]) ∧ w' = w := by
  have hi := Lib.hid (fun W => isort_none cap fv W)
  go_enter Try.func70, Try.ntmps70
  go_wp2
  refine wp_loop_rounds 1 ?_
  rw [rounds_succ]
  go_wp2_with (go_at_call 75; refine (hi.out _).mono ?_; rintro e w' ⟨rfl, rfl⟩)
  (try simp only [Exit.inBlock, Exit.then]); refine bodyPost_ret (results_none rfl _ _ _) rfl ?_
  exact ⟨rfl, rfl⟩
set_option maxHeartbeats 2000000 in
theorem sort_none (cap : Nat) (fv : Value) (w : World) : Calls Try.prog 55 #[.slice none 0 cap, fv] w fun e w' => e = .returned (.tuple #[]) ∧ w' = w := by
  have hp := Lib.hid (fun lim W => pdq_none cap lim fv W)
  have hl : Hid (∀ W, Calls Try.prog 71 #[.int .u64 0] W fun e w' => e = .returned (.int .i64 (Lib.bitLen 0 : Nat)) ∧ w' = W) := Lib.hid fun W => by
    have h := Any.bits_Len (SlLaysF0.n15.bits (P := Try.prog) (ρ := Try.mdlSort_ren) { Try.mdlSort with }) 0 W (by omega) (by omega)
    exact h
  go_enter Try.func55, Try.ntmps55
  go_wp2_with (first
    | (go_at_call 71; refine (hl.out _).mono ?_; rintro e w' ⟨rfl, rfl⟩)
    | (go_at_call 70; refine (hp.out _ _).mono ?_; rintro e w' ⟨rfl, rfl⟩))
  go_end0
  exact ⟨rfl, rfl⟩
theorem sort_any (w : World) (base : Nat) (v : Value) (l : List Ent) (hown : w.ownsRow base 84 2 v l.length (flatE l)) (hl : l.length ≤ 1000000) :
    Calls Try.prog 55 #[v, .func (.func 56) #[] #[]] w fun e w' => e = .returned (.tuple #[]) ∧ ∃ l', l'.Perm l ∧ l'.Pairwise (fun x y => ltB y.k x.k = false) ∧ w'.ownsRow base 84 2 v l.length (flatE l') ∧ Far (fun i => v.ownBlock = some i) w w' := by
  have eg : ∀ args w, (callFunc 56 args).run Try.prog w = .ok (.enter 56 args) w := enters_of Try.func56 (by kernel_rfl) rfl
  rcases hown.2 with ⟨rfl, h0⟩ | ⟨g, cap, cur, rfl, hbase, hg, hle, hcap, hs, ht⟩
  · rw [h0]
    refine (sort_none 0 _ w).mono ?_
    rintro e w' ⟨he, rfl⟩
    have hl0 : l = [] := List.length_eq_zero_iff.1 h0
    subst hl0
    exact ⟨he, [], List.Perm.refl _, List.Pairwise.nil, hown, Far.refl _ _⟩
  · have hlt : g < w.heap.size := (Array.getElem?_eq_some_iff.1 hg).1
    have hH : HoldsK cellE 2 w g 0 l.toArray := by
      unfold HoldsK
      rw [flatK_eq]
      intro j hj
      have hj' : j < (flatE l).length := by simpa using hj
      refine ⟨?_, by simp [World.frozen?, hg]⟩
      have h1 : (cur.toList.take (l.length * 2))[j]? = (flatE l)[j]? := by rw [ht]
      rw [List.getElem?_take_of_lt (by rw [flatE_length] at hj'; exact hj')] at h1
      simp only [World.cell?, hg, Nat.zero_add]
      simp only [Option.isSome_none, Bool.false_eq_true, if_false]
      rw [← Array.getElem?_toList, h1]
      simp [hj']
    have hcon := AnyQ.slices_SortFunc Try.mdlSort 2 Try.isAgg84 Try.sizeOf84 cellE (fun _ => rfl) (fun x v hv => one_flatE [x] v (by simpa [flatE] using hv)) cmpE swoE 56 #[] g 0 cap l.toArray w eg (fun m os dk hdk x y => byKey_any x y _) hH hlt (by simp; omega)
    change Calls Try.prog 55 _ _ _ at hcon
    refine hcon.mono ?_
    rintro e w' ⟨he, d', m, os, hp, hsd, rfl⟩
    have hsz : d'.size = l.length := by have := hp.1; simpa using this
    obtain ⟨l', rfl⟩ : ∃ l' : List Ent, d' = l'.toArray := ⟨d'.toList, by simp⟩
    have hlen : l'.length = l.length := by simpa using hsz
    have hpm : l'.Perm l := by
      have := hp.2.2
      simpa [List.take_of_length_le (Nat.le_of_eq hlen)] using this
    refine ⟨he, l', hpm, sortedIn_pw (by rw [hlen]; simpa using hsd), ?_, ?_⟩
    · unfold sortWorldK putRowK
      rw [flatK_eq]
      refine ⟨by rw [flatE_length, hlen], .inr ⟨g, cap, _, rfl, hbase, heap_sortedV _ hg, hle, hcap, by simp [putCells, hs], ?_⟩⟩
      have := take_putCellsV cur (flatE l') (by rw [flatE_length, hlen, hs]; exact Nat.mul_le_mul hle (Nat.le_refl _))
      rwa [flatE_length, hlen] at this
    · unfold sortWorldK putRowK
      exact (far_sortedV (flatK cellE 2 l'.toArray)).mono (fun i _ h => by rw [h]; rfl)
end Go.Proofs.Ytdahhnefcageeaa
