/-
  Package lease: number, there, find.
-/
import Derived.Test.YtjladlniilacjaaLeaIs
import Derived.OwnWalk
namespace Go.Proofs.Ytjladlniilacjaa
open Go.RowKit Go.Proofs.Lea
set_option linter.unusedVariables false
set_option linter.unusedSimpArgs false
theorem number_nil (w : World) : Calls Try.prog 45 #[.nilIface] w fun r w' => r = .returned (.int .i64 0) ∧ w = w' := by
  have IN := Lib.hid (fun e W => is_nil e W)
  go_enter Try.func45, Try.ntmps45
  go_wp2_with ((go_at_call 68; refine (IN.out _ _).mono ?_; rintro e w1 ⟨rfl, rfl⟩))
  go_ret
  exact ⟨rfl, rfl⟩
theorem number_6 (id : Int) (w : World) : Calls Try.prog 45 #[fltL id 6] w fun r w' => r = .returned (.int .i64 6) ∧ Below w.heap.size w w' := by
  have I6 := Lib.hid (is_any id 6 6 (by decide) w)
  go_enter Try.func45, Try.ntmps45
  go_wp2_with ((go_at_call 68; refine I6.out.mono ?_; rintro e w1 ⟨rfl, hb⟩; have HB := Lib.hid hb; clear hb; rw [show decide ((6 : Int) = 6) = true from rfl]))
  go_ret
  exact ⟨rfl, HB.out⟩
theorem number_5 (id : Int) (w : World) : Calls Try.prog 45 #[fltL id 5] w fun r w' => r = .returned (.int .i64 5) ∧ Below w.heap.size w w' := by
  have IS : Hid (∀ W g, (g = 5 ∨ g = 6) → Calls Try.prog 68 #[fltL id 5, .iface 27 (.int .i64 g)] W fun r w' => r = .returned (.bool (decide (5 = g))) ∧ Below W.heap.size W w') := Lib.hid (fun W g hg => is_any id 5 g (by rcases hg with rfl | rfl <;> decide) W)
  have HB := Lib.hid (Bl.start w)
  go_enter Try.func45, Try.ntmps45
  go_wp2_with ((go_at_call 68; refine (IS.out _ _ (by decide)).mono ?_; rintro e w1 ⟨rfl, hb⟩; have HB := Lib.hid (HB.out.call hb); clear hb; (first | rw [show decide ((5 : Int) = 6) = false from rfl] | rw [show decide ((5 : Int) = 5) = true from rfl])))
  go_ret
  exact ⟨rfl, HB.out.1⟩
/-- The slot of a session that is there. -/
def ptrO (m : Nat) (r : Option Nat) : Value := match r with | some i => slotP m i | none => .pointer none
def errO (id : Int) (r : Option Nat) : Value := match r with | some _ => .nilIface | none => fltL id 5
theorem there_at (t : Tbl) (id : Int) (k : Nat) (i : Nat) (h : t.used[k]? = some i) (hid : t.id i = id) (hn : ∀ (j : Nat) (u : Nat), j < k → t.used[j]? = some u → t.id u ≠ id) : t.there id = some i := by
  unfold Tbl.there
  have hp : t.used = t.used.take k ++ i :: t.used.drop (k + 1) := by
    have hlt := (List.getElem?_eq_some_iff.1 h).1
    have h1 := (List.take_append_drop k t.used).symm
    rw [List.drop_eq_getElem_cons hlt] at h1
    rw [(List.getElem?_eq_some_iff.1 h).2] at h1
    exact h1
  rw [hp, List.find?_append]
  have : (t.used.take k).find? (fun i => decide (t.id i = id)) = none := by
    rw [List.find?_eq_none]
    intro x hx
    obtain ⟨j, hj⟩ := List.getElem?_of_mem hx
    have hjk : j < k := by have := (List.getElem?_eq_some_iff.1 hj).1; simp at this; omega
    rw [List.getElem?_take_of_lt hjk] at hj
    simpa using hn j x hjk hj
  rw [this]
  simp [hid]
theorem there_none (t : Tbl) (id : Int) (hn : ∀ (j : Nat) (u : Nat), t.used[j]? = some u → t.id u ≠ id) : t.there id = none := by
  unfold Tbl.there
  rw [List.find?_eq_none]
  intro x hx
  obtain ⟨j, hj⟩ := List.getElem?_of_mem hx
  simpa using hn j x hj
set_option maxRecDepth 100000 in
set_option maxHeartbeats 2000000 in
theorem there_any (m : Nat) (t : Tbl) (vs : Nat → Value) (ve : Value) (id : Int) (w : World) (hb : Blk w m 92 (tC t vs ve)) :
    Calls Try.prog 46 #[.pointer (some ⟨m, 0, none⟩), .int .i64 id] w fun e w' => e = .returned (.tuple #[ptrO m (t.there id), errO id (t.there id)]) ∧ Below w.heap.size w w' := by
  have US := Lib.hid (used_any m t vs ve w hb)
  have HB := Lib.hid hb
  have UL := used_le t
  clear hb
  go_enter Try.func46, Try.ntmps46
  go_wp2_with (go_at_call 42; refine US.out.mono ?_; rintro e w1 ⟨v, rfl, own, hb⟩; obtain ⟨A, c, rfl, _, hS⟩ := Vs.of_own own (by simp); have SS := Lib.hid hS; have B1 := Lib.hid hb; clear own hb hS)
  go_loopw [7, 11] (fun _ vi wr => ∃ k : Nat, vi = .int .i64 (k : Int) ∧ k ≤ t.used.length ∧ Hid (∀ (j : Nat) (u : Nat), j < k → t.used[j]? = some u → t.id u ≠ id) ∧ wr = w1) (fun _ vi _ => t.used.length - (intOf vi).toNat)
  case atStart => exact ⟨0, rfl, Nat.zero_le _, Lib.hid (fun j u h => absurd h (by omega)), rfl⟩
  case round =>
    obtain ⟨k, rfl, hk, HN, rfl⟩ := hrel
    by_cases hlt : k < t.used.length
    · obtain ⟨i, hi⟩ : ∃ i, t.used[k]? = some i := ⟨_, List.getElem?_eq_getElem hlt⟩
      obtain ⟨b, o, rfl, _, hc⟩ := SS.out.at_ k (slotP m i) (by rw [List.getElem?_map, hi]; rfl)
      have c0 := hc k (slotP m i) (by rw [List.getElem?_map, hi]; rfl)
      have hi4 := ((used_mem t i).1 (List.mem_of_getElem? hi)).1
      have c1 : wr.cell? ⟨m, 2 + i * 5, none⟩ = some (.int .i64 (t.id i)) := by rw [(HB.out.below B1.out).cell]; exact tC_id t vs ve i hi4
      have i1 : (k : Int) < (t.used.length : Int) := by omega
      have wk : IntKind.i64.wrap ((k : Int) + 1) = (k : Int) + 1 := IntWalk.i64_in _ (by omega)
      have HI := Lib.hid hi
      unfold slotP at c0
      clear hi hc hi4
      by_cases he : t.id i = id
      · have HR := Lib.hid (there_at t id k i HI.out he HN.out)
        rw [he] at c1
        clear he
        go_wp2_with fail
        go_ret2
        rw [HR.out]
        exact ⟨rfl, B1.out⟩
      · have HE := Lib.hid he
        have hne : (t.id i == id) = false := by simpa using he
        clear he
        go_wp2_with fail
        refine ⟨⟨k + 1, by go_num, by omega, Lib.hid ?_, trivial⟩, by simp [intOf]; omega⟩
        intro j u hj hu
        rcases Nat.lt_or_ge j k with h | h
        · exact HN.out j u h hu
        · obtain rfl : j = k := by omega
          rw [HI.out] at hu
          cases hu
          exact HE.out
    · obtain rfl : k = t.used.length := by omega
      have HR := Lib.hid (there_none t id (fun j u hu => HN.out j u (List.getElem?_eq_some_iff.1 hu).1 hu))
      go_wp2_with fail
      go_ret2
      rw [HR.out]
      exact ⟨rfl, B1.out⟩
/-- What find hands back. -/
def gotP (m : Nat) : Got → Value
  | .ok i => slotP m i
  | .err _ => .pointer none
def gotV (id : Int) : Got → Value
  | .ok _ => .nilIface
  | .err e => fltL id e
/-- A row of numbers. -/
def ints (l : List Int) : List Value := l.map (Value.int .i64)
theorem contains_any (A : Option Addr) (c : Nat) (l : List Int) (x : Int) (w : World) (hS : Vs w A (ints l)) (hl : l.length ≤ 1000) :
    Calls Try.prog 67 #[.slice A l.length c, .int .i64 x] w fun e w' => e = .returned (.bool (decide (x ∈ l))) ∧ w = w' := by
  have IX : Calls Try.prog 78 #[.slice A l.length c, .int .i64 x] w fun e w' => (∃ r : Int, e = .returned (.int .i64 r) ∧ (r ≥ 0 ↔ x ∈ l)) ∧ w = w' := by
    have HS := Lib.hid hS
    clear hS
    go_enter Try.func78, Try.ntmps78
    go_wp2_with fail
    go_loopw [5, 8] (fun _ vi wr => ∃ k : Nat, vi = .int .i64 (k : Int) ∧ k ≤ l.length ∧ Hid (∀ (j : Nat) (u : Int), j < k → l[j]? = some u → x ≠ u) ∧ wr = w) (fun _ vi _ => l.length - (intOf vi).toNat)
    case atStart => exact ⟨0, rfl, Nat.zero_le _, Lib.hid (fun j u h => absurd h (by omega)), rfl⟩
    case round =>
      obtain ⟨k, rfl, hk, HN, rfl⟩ := hrel
      by_cases hlt : k < l.length
      · obtain ⟨u, hu⟩ : ∃ u, l[k]? = some u := ⟨_, List.getElem?_eq_getElem hlt⟩
        obtain ⟨b, o, rfl, _, hc⟩ := HS.out.at_ k (.int .i64 u) (by unfold ints; rw [List.getElem?_map, hu]; rfl)
        have c0 := hc k (.int .i64 u) (by unfold ints; rw [List.getElem?_map, hu]; rfl)
        have i1 : (k : Int) < (l.length : Int) := by omega
        have wk : IntKind.i64.wrap ((k : Int) + 1) = (k : Int) + 1 := IntWalk.i64_in _ (by omega)
        have HU := Lib.hid hu
        clear hu hc
        by_cases he : x = u
        · have HX := Lib.hid (List.mem_of_getElem? HU.out)
          rw [← he] at c0 HX
          clear he
          go_wp2_with fail
          go_ret
          exact ⟨⟨k, rfl, ⟨fun _ => HX.out, fun _ => by omega⟩⟩, rfl⟩
        · have HE := Lib.hid he
          have hne : (x == u) = false := by simpa using he
          clear he
          go_wp2_with fail
          refine ⟨⟨k + 1, by go_num, by omega, Lib.hid ?_, trivial⟩, by simp [intOf]; omega⟩
          intro j u' hj hu'
          rcases Nat.lt_or_ge j k with h | h
          · exact HN.out j u' h hu'
          · obtain rfl : j = k := by omega
            rw [HU.out] at hu'
            cases hu'
            exact HE.out
      · obtain rfl : k = l.length := by omega
        go_wp2_with fail
        go_ret
        refine ⟨⟨-1, rfl, ⟨fun h => absurd h (by decide), fun h => ?_⟩⟩, rfl⟩
        obtain ⟨j, hj⟩ := List.getElem?_of_mem h
        exact absurd rfl (HN.out j x (List.getElem?_eq_some_iff.1 hj).1 hj)
  have IX := Lib.hid IX
  clear hS
  by_cases hx : x ∈ l
  · rw [decide_eq_true hx]
    go_enter Try.func67, Try.ntmps67
    go_wp2_with (go_at_call 78; refine IX.out.mono ?_; rintro e w1 ⟨⟨r, rfl, hr⟩, rfl⟩; have h1 : decide (r ≥ 0) = true := decide_eq_true (hr.2 hx); have h2 : 0 ≤ r := hr.2 hx; clear hr)
    go_ret
    exact ⟨rfl, rfl⟩
  · rw [decide_eq_false hx]
    go_enter Try.func67, Try.ntmps67
    go_wp2_with (go_at_call 78; refine IX.out.mono ?_; rintro e w1 ⟨⟨r, rfl, hr⟩, rfl⟩; have h1 : decide (r ≥ 0) = false := decide_eq_false (fun h => hx (hr.1 h)); clear hr)
    go_ret
    exact ⟨rfl, rfl⟩
set_option maxRecDepth 100000 in
set_option maxHeartbeats 2000000 in
theorem find_any (B m : Nat) (t : Tbl) (vs : Nat → Value) (ve : Value) (id clock : Int) (w : World) (hb : Blk w m 92 (tC t vs ve)) (he : w.ownsRow B 3 1 ve t.ended.length (ints t.ended)) (hl : t.ended.length ≤ 1000) :
    Calls Try.prog 44 #[.pointer (some ⟨m, 0, none⟩), .int .i64 id, .int .i64 clock] w fun e w' => e = .returned (.tuple #[gotP m (t.find id clock), gotV id (t.find id clock)]) ∧ Below w.heap.size w w' := by
  have TH := Lib.hid (there_any m t vs ve id w hb)
  have HB := Lib.hid hb
  obtain ⟨A, c, rfl, _, hS⟩ := Vs.of_own he (by simp [ints])
  have CO := Lib.hid (fun W h => contains_any A c t.ended id W (hS.below h) hl)
  have ce : ∀ W, Below w.heap.size w W → W.cell? ⟨m, 23, none⟩ = some (.slice A t.ended.length c) := fun W h => by rw [(hb.below h).cell]; rfl
  have CE := Lib.hid ce
  have hfind : t.find id clock = match t.there id with
    | some i => if (t.sl i).s.dead ≤ clock ∨ id ∈ t.ended then .err 6 else .ok i
    | none => if id ∈ t.ended then .err 6 else .err 5 := rfl
  rw [hfind]
  clear hb he hS ce hfind
  cases hth : t.there id with
  | none =>
    rw [hth] at TH
    unfold ptrO errO at TH
    simp only at TH ⊢
    by_cases hin : id ∈ t.ended
    · rw [if_pos hin]
      rw [decide_eq_true hin] at CO
      unfold gotP gotV
      simp only
      clear hin
      go_enter Try.func44, Try.ntmps44
      go_wp2_with (first
        | (go_at_call 46; refine TH.out.mono ?_; rintro e w1 ⟨rfl, hb⟩; have B1 := Lib.hid hb; have c1 := CE.out w1 hb; have CW := Lib.hid (CO.out w1 hb); clear hb)
        | (go_at_call 67; refine CW.out.mono ?_; rintro e w2 ⟨rfl, rfl⟩))
      go_ret2
      exact ⟨rfl, B1.out⟩
    · rw [if_neg hin]
      rw [decide_eq_false hin] at CO
      unfold gotP gotV
      simp only
      clear hin
      go_enter Try.func44, Try.ntmps44
      go_wp2_with (first
        | (go_at_call 46; refine TH.out.mono ?_; rintro e w1 ⟨rfl, hb⟩; have B1 := Lib.hid hb; have c1 := CE.out w1 hb; have CW := Lib.hid (CO.out w1 hb); clear hb)
        | (go_at_call 67; refine CW.out.mono ?_; rintro e w2 ⟨rfl, rfl⟩))
      go_ret2
      exact ⟨rfl, B1.out⟩
  | some i =>
    have hi4 : i < 4 := by
      unfold Tbl.there at hth
      exact ((used_mem t i).1 (List.mem_of_find?_eq_some hth)).1
    have cd : ∀ W, Below w.heap.size w W → W.cell? ⟨m, 2 + i * 5 + 2, none⟩ = some (.int .i64 (t.sl i).s.dead) := fun W h => by rw [(HB.out.below h).cell]; exact tC_dead t vs _ i hi4
    have CD := Lib.hid cd
    rw [hth] at TH
    unfold ptrO errO slotP at TH
    simp only at TH ⊢
    generalize (t.sl i).s.dead = dd at CD ⊢
    clear cd
    by_cases hd : dd ≤ clock
    · rw [if_pos (.inl hd)]
      unfold gotP gotV
      simp only
      go_enter Try.func44, Try.ntmps44
      go_wp2_with (first
        | (go_at_call 46; refine TH.out.mono ?_; rintro e w1 ⟨rfl, hb⟩; have B1 := Lib.hid hb; have c1 := CE.out w1 hb; have c2 := CD.out w1 hb; clear hb))
      go_ret2
      exact ⟨rfl, B1.out⟩
    · by_cases hin : id ∈ t.ended
      · rw [if_pos (.inr hin)]
        rw [decide_eq_true hin] at CO
        unfold gotP gotV
        simp only
        clear hin
        go_enter Try.func44, Try.ntmps44
        go_wp2_with (first
          | (go_at_call 46; refine TH.out.mono ?_; rintro e w1 ⟨rfl, hb⟩; have B1 := Lib.hid hb; have c1 := CE.out w1 hb; have c2 := CD.out w1 hb; have CW := Lib.hid (CO.out w1 hb); clear hb)
          | (go_at_call 67; refine CW.out.mono ?_; rintro e w2 ⟨rfl, rfl⟩))
        go_ret2
        exact ⟨rfl, B1.out⟩
      · rw [if_neg (fun h => h.elim hd hin)]
        rw [decide_eq_false hin] at CO
        unfold gotP gotV slotP
        simp only
        clear hin
        go_enter Try.func44, Try.ntmps44
        go_wp2_with (first
          | (go_at_call 46; refine TH.out.mono ?_; rintro e w1 ⟨rfl, hb⟩; have B1 := Lib.hid hb; have c1 := CE.out w1 hb; have c2 := CD.out w1 hb; have CW := Lib.hid (CO.out w1 hb); clear hb)
          | (go_at_call 67; refine CW.out.mono ?_; rintro e w2 ⟨rfl, rfl⟩))
        go_ret2
        exact ⟨rfl, B1.out⟩
end Go.Proofs.Ytjladlniilacjaa
