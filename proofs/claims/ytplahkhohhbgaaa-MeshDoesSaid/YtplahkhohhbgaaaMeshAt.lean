/-
  Package mesh: at, with what it does.
-/
import Derived.Test.YtplahkhohhbgaaaMeshLay
namespace Go.Proofs.Ytplahkhohhbgaaa
open Go.RowKit
set_option linter.unusedVariables false
set_option linter.unusedSimpArgs false
theorem own_cell {w : World} {base : Nat} {v : Value} {xs : List ByteArray} (h : w.ownsRow base 9 1 v xs.length (xs.map Value.string)) {n : Nat} {x : ByteArray} (hx : xs[n]? = some x) :
    ∃ k cap, v = .slice (some ⟨k, 0, none⟩) xs.length cap ∧ w.cell? ⟨k, n, none⟩ = some (.string x) := by
  have hn : n < xs.length := (List.getElem?_eq_some_iff.1 hx).1
  obtain ⟨k, cap, cur, rfl, _, hk, hle, _, hs, ht⟩ := own_some h (by intro e; subst e; simp at hn)
  refine ⟨k, cap, rfl, ?_⟩
  rw [cell_list hk]
  have h1 : (cur.take xs.length)[n]? = some (.string x) := by rw [ht, List.getElem?_map, hx]; rfl
  rw [List.getElem?_take_of_lt hn] at h1
  exact h1
set_option maxHeartbeats 1000000 in
theorem mat_cap (R : World → Prop) (b : Value) (f : FuncId) (p1 p2 p3 : Value) (B g : Nat) (r : Int) (v : Value) (xs : List ByteArray) (n : Nat) (x : ByteArray) (w : World) (hM : Mh B g r v xs w) (hx : xs[n]? = some x)
    (hent : Sem.run Try.prog (callFunc f #[.string x, p1, p2, p3]) w = .ok (.enter f #[.string x, p1, p2, p3]) w)
    (H : Calls Try.prog f #[.string x, p1, p2, p3] w fun e w' => e = .returned b ∧ R w') :
    Calls Try.prog 57 #[.pointer (some ⟨g, 0, none⟩), .int .i64 (n : Int), .func (.func f) #[] #[p1, p2, p3]] w fun e w' => e = .returned b ∧ R w' := by
  have hn : n < xs.length := (List.getElem?_eq_some_iff.1 hx).1
  obtain ⟨k, cap, rfl, ck⟩ := own_cell hM.2.1 hx
  have c1 : w.cell? ⟨g, 1, none⟩ = some (.slice (some ⟨k, 0, none⟩) xs.length cap) := by rw [hM.1.cell]; rfl
  have h2 : (n : Int) < (xs.length : Int) := by omega
  clear hM hx
  have HH := Lib.hid H
  clear H
  go_enter Try.func57, Try.ntmps57
  go_wp2_with fail
  refine (HH.out).mono ?_
  rintro e w1 ⟨rfl, hR⟩
  go_wp2_with fail
  go_ret
  exact ⟨rfl, hR⟩
set_option maxHeartbeats 1000000 in
theorem mat_bound (R : World → Prop) (b : Value) (f : FuncId) (p1 : Value) (B g : Nat) (r : Int) (v : Value) (xs : List ByteArray) (n : Nat) (x : ByteArray) (w : World) (hM : Mh B g r v xs w) (hx : xs[n]? = some x)
    (hent : Sem.run Try.prog (callFunc f #[p1, .string x]) w = .ok (.enter f #[p1, .string x]) w)
    (H : Calls Try.prog f #[p1, .string x] w fun e w' => e = .returned b ∧ R w') :
    Calls Try.prog 57 #[.pointer (some ⟨g, 0, none⟩), .int .i64 (n : Int), .func (.func f) #[p1] #[]] w fun e w' => e = .returned b ∧ R w' := by
  have hn : n < xs.length := (List.getElem?_eq_some_iff.1 hx).1
  obtain ⟨k, cap, rfl, ck⟩ := own_cell hM.2.1 hx
  have c1 : w.cell? ⟨g, 1, none⟩ = some (.slice (some ⟨k, 0, none⟩) xs.length cap) := by rw [hM.1.cell]; rfl
  have h2 : (n : Int) < (xs.length : Int) := by omega
  clear hM hx
  have HH := Lib.hid H
  clear H
  go_enter Try.func57, Try.ntmps57
  go_wp2_with fail
  refine (HH.out).mono ?_
  rintro e w1 ⟨rfl, hR⟩
  go_wp2_with fail
  go_ret
  exact ⟨rfl, hR⟩
/-- What a mesh's row may turn, and nothing else. -/
def Step (B g : Nat) (r : Int) (v : Value) (xs : List ByteArray) (w w' : World) (ys : List ByteArray) : Prop := ∃ v', Mh B g r v' ys w' ∧ Far (Own g v) w w' ∧ Fresh w v v'
theorem enters {f : FuncId} {args : Array Value} {fn : Func} (hf : Try.prog.funcs[f]? = some fn) (hb : (fn.name == "runtime.NumGoroutine" || fn.body.isNone) = false) (w : World) : Sem.run Try.prog (callFunc f args) w = .ok (.enter f args) w := by
  simp only [Bool.or_eq_false_iff] at hb
  have h1 : ¬ fn.name = "runtime.NumGoroutine" := by simpa using hb.1
  have h2 : ¬ fn.body = none := by intro e; simp [e] at hb
  simp [callFunc, go_sem, hf]
  rw [if_neg h1, if_neg h2]
theorem enters_take (args : Array Value) (w : World) : Sem.run Try.prog (callFunc 62 args) w = .ok (.enter 62 args) w := enters Try.func62 (by kernel_rfl) w
theorem enters_move (args : Array Value) (w : World) : Sem.run Try.prog (callFunc 58 args) w = .ok (.enter 58 args) w := enters Try.func58 (by kernel_rfl) w
theorem enters_move1 (args : Array Value) (w : World) : Sem.run Try.prog (callFunc 59 args) w = .ok (.enter 59 args) w := enters Try.func59 (by kernel_rfl) w
theorem enters_send (args : Array Value) (w : World) : Sem.run Try.prog (callFunc 39 args) w = .ok (.enter 39 args) w := enters Try.func39 (by kernel_rfl) w
set_option maxHeartbeats 1000000 in
theorem take1_any (B g : Nat) (r : Int) (v : Value) (xs : List ByteArray) (n : Nat) (x : ByteArray) (k2 k3 k4 : Nat) (u : Value) (w : World) (hM : Mh B g r v xs w) (hn : n < xs.length) (hl : xs.length ≤ 1000)
    (h4 : Blk w k4 9 #[u]) (h2 : Blk w k2 55 #[.pointer (some ⟨g, 0, none⟩)]) (h3 : Blk w k3 3 #[.int .i64 (n : Int)]) (hd : ¬ Own g v k4 ∧ ¬ Own g v k2 ∧ ¬ Own g v k3) (h42 : k4 ≠ k2) (h43 : k4 ≠ k3) :
    Calls Try.prog 62 #[.string x, .pointer (some ⟨k4, 0, none⟩), .pointer (some ⟨k2, 0, none⟩), .pointer (some ⟨k3, 0, none⟩)] w fun e w' => e = .returned (.bool true) ∧
      ∃ v', Mh B g r v' (xs.eraseIdx n) w' ∧ Far (fun i => Own g v i ∨ i = k4) w w' ∧ v'.ownBlock = v.ownBlock ∧ Blk w' k4 9 #[.string x] := by
  have f4 : w.frozen? ⟨k4, 0, none⟩ = false := h4.frozen 0
  have c4 : w.cell? ⟨k4, 0, none⟩ = some u := by rw [h4.cell]; rfl
  have c2 : w.cell? ⟨k2, 0, none⟩ = some (.pointer (some ⟨g, 0, none⟩)) := by rw [h2.cell]; rfl
  have c3 : w.cell? ⟨k3, 0, none⟩ = some (.int .i64 (n : Int)) := by rw [h3.cell]; rfl
  have n2 : k2 ≠ k4 := Ne.symm h42
  have n3 : k3 ≠ k4 := Ne.symm h43
  have hM1 : Mh B g r v xs (w.setCell ⟨k4, 0, none⟩ (.string x)) := hM.far ((Far.refl (fun i => i = k4) w).setCell (p := ⟨k4, 0, none⟩) (fun _ => rfl) _) (fun i hi e => hd.1 (by subst e; exact hi))
  have hB4 : Blk (w.setCell ⟨k4, 0, none⟩ (.string x)) k4 9 #[.string x] := by have := h4.set 0 (.string x); simpa using this
  have F1 : Far (fun i => Own g v i ∨ i = k4) w (w.setCell ⟨k4, 0, none⟩ (.string x)) := (Far.refl _ w).setCell (p := ⟨k4, 0, none⟩) (fun _ => .inr rfl) _
  have HM1 := Lib.hid hM1
  have HB4 := Lib.hid hB4
  have HF1 := Lib.hid F1
  clear hM h4 h2 h3 hM1 hB4 F1
  go_enter Try.func62, Try.ntmps62
  go_wp2_with fail
  refine (mcut_any B g r v xs n _ HM1.out hn hl).mono ?_
  rintro e w1 ⟨rfl, v', hM2, F2, ho⟩
  have HM2 := Lib.hid hM2
  have HF2 := Lib.hid F2
  clear hM2 F2
  go_wp2_with fail
  go_ret
  exact ⟨rfl, v', HM2.out, HF1.out.trans HF2.out (fun i _ h => .inl h), ho, HB4.out.far HF2.out hd.1⟩
theorem Mh.own_lt {B g : Nat} {r : Int} {v : Value} {xs : List ByteArray} {w : World} (h : Mh B g r v xs w) : ∀ i, Own g v i → i < w.heap.size := by
  intro i hi
  rcases hi with rfl | hi
  · exact h.1.lt
  · rcases h.2.1.2 with ⟨rfl, _⟩ | ⟨k, cap, cur, rfl, _, hg, _⟩
    · cases hi
    · have h2 : some k = some i := hi
      cases h2
      exact (Array.getElem?_eq_some_iff.1 hg).1
set_option maxHeartbeats 1000000 in
theorem mtake_yes (B g : Nat) (r : Int) (v : Value) (xs : List ByteArray) (n : Nat) (x : ByteArray) (w : World) (hM : Mh B g r v xs w) (hx : xs[n]? = some x) (hl : xs.length ≤ 1000) :
    Calls Try.prog 41 #[.pointer (some ⟨g, 0, none⟩), .int .i64 (n : Int)] w fun e w' => e = .returned (.tuple #[.string x, .bool true]) ∧ Step B g r v xs w w' (xs.eraseIdx n) := by
  have hn : n < xs.length := (List.getElem?_eq_some_iff.1 hx).1
  have holt := hM.own_lt
  have HM := Lib.hid hM
  have HX := Lib.hid hx
  have HN := Lib.hid hn
  have HO := Lib.hid holt
  clear hM hx hn holt
  go_enter Try.func41, Try.ntmps41
  go_wp2_with fail
  obtain ⟨W, hW⟩ : ∃ W, W = ((w.alloc (.cells #[.pointer (some ⟨g, 0, none⟩)] 55)).alloc (.cells #[.int .i64 (n : Int)] 3)).alloc (.cells #[.string ⟨#[]⟩] 9) := ⟨_, rfl⟩
  rw [← hW]
  have hb2 : Blk W w.heap.size 55 #[.pointer (some ⟨g, 0, none⟩)] := by rw [hW]; exact ((Blk.new _ _ _).alloc _).alloc _
  have hb3 : Blk W (w.heap.size + 1) 3 #[.int .i64 (n : Int)] := by rw [hW]; exact (by simpa using Blk.new (w.alloc (.cells #[.pointer (some ⟨g, 0, none⟩)] 55)) 3 #[.int .i64 (n : Int)] : Blk _ (w.heap.size + 1) 3 _).alloc _
  have hb4 : Blk W (w.heap.size + 1 + 1) 9 #[.string ⟨#[]⟩] := by rw [hW]; simpa using Blk.new ((w.alloc (.cells #[.pointer (some ⟨g, 0, none⟩)] 55)).alloc (.cells #[.int .i64 (n : Int)] 3)) 9 #[.string ⟨#[]⟩]
  have F0 : Far (fun _ => False) w W := by rw [hW]; exact (((Far.refl _ w).alloc _).alloc _).alloc _
  clear hW
  have hW2 := HM.out.far F0 (fun _ _ h => h)
  have hno : ∀ i, w.heap.size ≤ i → ¬ Own g v i := fun i hi h => by have := HO.out i h; omega
  have HB4 := Lib.hid hb4
  have HF0 := Lib.hid F0
  have HNO := Lib.hid hno
  refine (mat_cap (fun w' => ∃ v', Mh B g r v' (xs.eraseIdx n) w' ∧ Far (fun i => Own g v i ∨ i = w.heap.size + 1 + 1) W w' ∧ v'.ownBlock = v.ownBlock ∧ Blk w' (w.heap.size + 1 + 1) 9 #[.string x]) (.bool true) _ _ _ _ B g r v xs n x W hW2 HX.out (enters_take _ _)
    (take1_any B g r v xs n x _ _ _ _ W hW2 HN.out hl hb4 hb2 hb3 ⟨hno _ (by omega), hno _ (by omega), hno _ (by omega)⟩ (by omega) (by omega))).mono ?_
  clear hb2 hb3 hb4 F0 hno hW2
  rintro e w1 ⟨rfl, v', hM2, F2, ho, hb⟩
  have f4 : w1.frozen? ⟨w.heap.size + 1 + 1, 0, none⟩ = false := hb.frozen 0
  have c4 : w1.cell? ⟨w.heap.size + 1 + 1, 0, none⟩ = some (.string x) := by rw [hb.cell]; rfl
  have HM2 := Lib.hid hM2
  have HF2 := Lib.hid F2
  have hb5 : Blk (w1.setCell ⟨w.heap.size + 1 + 1, 0, none⟩ (.string x)) (w.heap.size + 1 + 1) 9 #[.string x] := by have := hb.set 0 (.string x); simpa using this
  have g4 : (w1.setCell ⟨w.heap.size + 1 + 1, 0, none⟩ (.string x)).cell? ⟨w.heap.size + 1 + 1, 0, none⟩ = some (.string x) := by rw [hb5.cell]; rfl
  clear hM2 F2 hb hb5
  go_wp2_with fail
  refine bodyPost_ret (by simp [results, Try.results41, go_sem, g4]; try rfl) rfl ?_
  have F3 : Far (Own g v) w (w1.setCell ⟨w.heap.size + 1 + 1, 0, none⟩ (.string x)) := ((HF0.out.mono (S' := Own g v) (fun _ _ h => h.elim)).trans HF2.out (fun i hi h => h.resolve_right (by omega))).setCell (p := ⟨w.heap.size + 1 + 1, 0, none⟩) (fun h => absurd (show w.heap.size + 1 + 1 < w.heap.size from h) (by omega)) _
  refine ⟨rfl, v', HM2.out.far ((Far.refl (fun i => i = w.heap.size + 1 + 1) w1).setCell (p := ⟨w.heap.size + 1 + 1, 0, none⟩) (fun _ => rfl) _) ?_, F3, .inl ho⟩
  intro i hi e
  have := HNO.out i (by omega)
  apply this
  rcases hi with h | h
  · exact .inl h
  · exact .inr (by rw [← ho]; exact h)
set_option maxHeartbeats 1000000 in
theorem mtake_no (B g : Nat) (r : Int) (v : Value) (xs : List ByteArray) (n : Int) (w : World) (hM : Mh B g r v xs w) (hn : n < 0 ∨ (xs.length : Int) ≤ n) :
    Calls Try.prog 41 #[.pointer (some ⟨g, 0, none⟩), .int .i64 n] w fun e w' => e = .returned (.tuple #[.string ⟨#[]⟩, .bool false]) ∧ Step B g r v xs w w' xs := by
  have HM := Lib.hid hM
  have HN := Lib.hid hn
  clear hM hn
  go_enter Try.func41, Try.ntmps41
  go_wp2_with fail
  obtain ⟨W, hW⟩ : ∃ W, W = ((w.alloc (.cells #[.pointer (some ⟨g, 0, none⟩)] 55)).alloc (.cells #[.int .i64 n] 3)).alloc (.cells #[.string ⟨#[]⟩] 9) := ⟨_, rfl⟩
  rw [← hW]
  have hb4 : Blk W (w.heap.size + 1 + 1) 9 #[.string ⟨#[]⟩] := by rw [hW]; simpa using Blk.new ((w.alloc (.cells #[.pointer (some ⟨g, 0, none⟩)] 55)).alloc (.cells #[.int .i64 n] 3)) 9 #[.string ⟨#[]⟩]
  have F0 : Far (fun _ => False) w W := by rw [hW]; exact (((Far.refl _ w).alloc _).alloc _).alloc _
  clear hW
  have HB4 := Lib.hid hb4
  have HF0 := Lib.hid F0
  refine (mat_no B g r v xs n _ W (HM.out.far F0 (fun _ _ h => h)) HN.out).mono ?_
  rintro e w1 ⟨rfl, rfl⟩
  have f4 : W.frozen? ⟨w.heap.size + 1 + 1, 0, none⟩ = false := hb4.frozen 0
  have c4 : W.cell? ⟨w.heap.size + 1 + 1, 0, none⟩ = some (.string ⟨#[]⟩) := by rw [hb4.cell]; rfl
  have hb5 : Blk (W.setCell ⟨w.heap.size + 1 + 1, 0, none⟩ (.string ⟨#[]⟩)) (w.heap.size + 1 + 1) 9 #[.string ⟨#[]⟩] := by have := hb4.set 0 (.string ⟨#[]⟩); simpa using this
  have g4 : (W.setCell ⟨w.heap.size + 1 + 1, 0, none⟩ (.string ⟨#[]⟩)).cell? ⟨w.heap.size + 1 + 1, 0, none⟩ = some (.string ⟨#[]⟩) := by rw [hb5.cell]; rfl
  clear F0 hb4 hb5
  go_wp2_with fail
  refine bodyPost_ret (by simp [results, Try.results41, go_sem, g4]; try rfl) rfl ?_
  have F3 : Far (fun _ => False) w (W.setCell ⟨w.heap.size + 1 + 1, 0, none⟩ (.string ⟨#[]⟩)) := HF0.out.setCell (p := ⟨w.heap.size + 1 + 1, 0, none⟩) (fun h => absurd (show w.heap.size + 1 + 1 < w.heap.size from h) (by omega)) _
  exact ⟨rfl, v, HM.out.far F3 (fun _ _ h => h), F3.mono (fun _ _ h => h.elim), .inl rfl⟩
set_option maxHeartbeats 1000000 in
theorem mdrop_yes (B g : Nat) (r : Int) (v : Value) (xs : List ByteArray) (n : Nat) (w : World) (hM : Mh B g r v xs w) (hn : n < xs.length) (hl : xs.length ≤ 1000) :
    Calls Try.prog 52 #[.pointer (some ⟨g, 0, none⟩), .int .i64 (n : Int)] w fun e w' => e = .returned (.bool true) ∧ Step B g r v xs w w' (xs.eraseIdx n) := by
  obtain ⟨x, hx⟩ : ∃ x, xs[n]? = some x := ⟨_, List.getElem?_eq_getElem hn⟩
  have H := Lib.hid (mtake_yes B g r v xs n x w hM hx hl)
  clear hM hn hx
  go_enter Try.func52, Try.ntmps52
  go_wp2_with fail
  refine (H.out).mono ?_
  rintro e w1 ⟨rfl, hS⟩
  go_wp2_with fail
  go_ret
  exact ⟨rfl, hS⟩
set_option maxHeartbeats 1000000 in
theorem mdrop_no (B g : Nat) (r : Int) (v : Value) (xs : List ByteArray) (n : Int) (w : World) (hM : Mh B g r v xs w) (hn : n < 0 ∨ (xs.length : Int) ≤ n) :
    Calls Try.prog 52 #[.pointer (some ⟨g, 0, none⟩), .int .i64 n] w fun e w' => e = .returned (.bool false) ∧ Step B g r v xs w w' xs := by
  have H := Lib.hid (mtake_no B g r v xs n w hM hn)
  clear hM hn
  go_enter Try.func52, Try.ntmps52
  go_wp2_with fail
  refine (H.out).mono ?_
  rintro e w1 ⟨rfl, hS⟩
  go_wp2_with fail
  go_ret
  exact ⟨rfl, hS⟩
theorem step_drewN {B g : Nat} {r : Int} {v : Value} {xs : List ByteArray} {w w' : World} (hM : Mh B g r v xs w) (h : ∃ n, w' = w.drewN n) : Step B g r v xs w w' xs := by
  obtain ⟨n, rfl⟩ := h
  exact ⟨v, hM.drewN n, (Far.refl _ w).drewN n, .inl rfl⟩
theorem step_refl {B g : Nat} {r : Int} {v : Value} {xs : List ByteArray} {w : World} (hM : Mh B g r v xs w) : Step B g r v xs w w xs := ⟨v, hM, Far.refl _ w, .inl rfl⟩
set_option maxHeartbeats 1000000 in
theorem mdouble_any (R : World → Prop) (b : Bool) (B g : Nat) (r : Int) (v : Value) (xs : List ByteArray) (n : Nat) (x : ByteArray) (w : World) (hM : Mh B g r v xs w) (hx : xs[n]? = some x)
    (H : Calls Try.prog 39 #[.pointer (some ⟨g, 0, none⟩), .string x] w fun e w' => e = .returned (.bool b) ∧ R w') :
    Calls Try.prog 42 #[.pointer (some ⟨g, 0, none⟩), .int .i64 (n : Int)] w fun e w' => e = .returned (.bool b) ∧ R w' := by
  have H := Lib.hid (mat_bound R (.bool b) _ _ B g r v xs n x w hM hx (enters_send _ _) H)
  clear hM hx
  go_enter Try.func42, Try.ntmps42
  go_wp2_with fail
  refine (H.out).mono ?_
  rintro e w1 ⟨rfl, hS⟩
  go_wp2_with fail
  go_ret
  exact ⟨rfl, hS⟩
set_option maxHeartbeats 1000000 in
theorem mdouble_no (B g : Nat) (r : Int) (v : Value) (xs : List ByteArray) (n : Int) (w : World) (hM : Mh B g r v xs w) (hn : n < 0 ∨ (xs.length : Int) ≤ n) :
    Calls Try.prog 42 #[.pointer (some ⟨g, 0, none⟩), .int .i64 n] w fun e w' => e = .returned (.bool false) ∧ Step B g r v xs w w' xs := by
  have H := Lib.hid (fun F => mat_no B g r v xs n F w hM hn)
  have HM := Lib.hid hM
  clear hM hn
  go_enter Try.func42, Try.ntmps42
  go_wp2_with fail
  refine (H.out _).mono ?_
  rintro e w1 ⟨rfl, rfl⟩
  go_wp2_with fail
  go_ret
  exact ⟨rfl, step_refl HM.out⟩
end Go.Proofs.Ytplahkhohhbgaaa
