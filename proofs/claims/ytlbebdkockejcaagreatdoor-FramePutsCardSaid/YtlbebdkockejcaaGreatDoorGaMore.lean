/-
  Merged: RlpCheck, RlpChk, RlpMore.
-/
import Derived.Test.YtlbebdkockejcaaGreatDoorGaItems
import Derived.Handy
namespace Go.Proofs.YtlbebdkockejcaaGreatDoor
open Go.RowKit Go.Shelf
attribute [local go_sem] Oper.semAt_some
set_option linter.unusedVariables false
set_option linter.unusedSimpArgs false
def chkL (f : ByteArray → Option Nat) : List Told → Option Nat
  | [] => none
  | (b, some e) :: _ => some e
  | (b, none) :: r => match f b with | some e => some e | none => chkL f r
def chkTop (g : ByteArray → Option Nat) (s : ByteArray) : Option Nat :=
  match Rlp.first s.data.toList with
  | .error e => some e
  | .ok (l, f, n) => if f + n ≠ s.size then some (f + n) else if l = false then none else g (s.extract f (f + n))
/-- Where the one item that s should be is wrong. -/
def chk : Nat → ByteArray → Option Nat
  | 0, s => chkTop (fun _ => some 0) s
  | d + 1, s => chkTop (fun b => chkL (chk d) (eachF b b.size 0)) s
/-- One thing that was told is fine, and what is in it. -/
def good (f : ByteArray → Option Nat) (x : Told) : Prop := x.2 = none ∧ f x.1 = none
def bad (f : ByteArray → Option Nat) (x : Told) (e : Nat) : Prop := x.2 = some e ∨ (x.2 = none ∧ f x.1 = some e)
theorem chkL_good (f : ByteArray → Option Nat) (l : List Told) (h : ∀ x ∈ l, good f x) : chkL f l = none := by
  induction l with
  | nil => rfl
  | cons x r ih =>
    obtain ⟨b, o⟩ := x
    have h1 := h (b, o) (by simp)
    obtain ⟨h2, h3⟩ := h1
    simp only at h2 h3
    subst h2
    simp only [chkL, h3]
    exact ih (fun y hy => h y (by simp [hy]))
theorem chkL_bad (f : ByteArray → Option Nat) (l r : List Told) (x : Told) (e : Nat) (h : ∀ x ∈ l, good f x) (hx : bad f x e) : chkL f (l ++ x :: r) = some e := by
  induction l with
  | nil =>
    obtain ⟨b, o⟩ := x
    rcases hx with h1 | ⟨h1, h2⟩
    · simp only at h1; subst h1; rfl
    · simp only at h1 h2; subst h1; simp only [List.nil_append, chkL, h2]
  | cons y t ih =>
    obtain ⟨b, o⟩ := y
    obtain ⟨h2, h3⟩ := h (b, o) (by simp)
    simp only at h2 h3
    subst h2
    simp only [List.cons_append, chkL, h3]
    exact ih (fun y hy => h y (by simp [hy]))
theorem isAggErr (w : World) : (isAgg 94).run Tryz.prog w = .ok false w := by kernel_rfl
/-- One result that lies in memory. -/
theorem results_cell1 {fn : Func} (h : fn.results = #[.cell 4 94]) (tmps : Array Value) (w : World) (a : Nat) (h4 : tmps[4]?.getD undef = .pointer (some ⟨a, 0, none⟩)) {x : Value} (hx : w.cell? ⟨a, 0, none⟩ = some x) :
    (results fn tmps).run Tryz.prog w = .ok x w := by
  simp [results, h, h4, loadVar, isAggErr, asAddr, hx, Result.andThen]
/-- The two boxes, behind a call that leaves what was there. -/
theorem check_world (w : World) (d : Nat) {w1 : World} (bw : Below ((w.alloc (.cells #[.int .i64 (d : Int)] 3)).alloc (.cells #[.nilIface] 94)).heap.size ((w.alloc (.cells #[.int .i64 (d : Int)] 3)).alloc (.cells #[.nilIface] 94)) w1) :
    w1.cell? ⟨w.heap.size, 0, none⟩ = some (.int .i64 (d : Int)) ∧ w1.cell? ⟨w.heap.size + 1, 0, none⟩ = some .nilIface ∧ w1.frozen? ⟨w.heap.size + 1, 0, none⟩ = false ∧ w.heap.size + 1 < w1.heap.size ∧ Below w.heap.size w w1 := by
  have g := grown_of_below bw
  have c4 : ((w.alloc (.cells #[.int .i64 (d : Int)] 3)).alloc (.cells #[.nilIface] 94)).cell? ⟨w.heap.size + 1, 0, none⟩ = some .nilIface := by rw [World.cell?_alloc_at _ _ _ _ (by simp)]; rfl
  refine ⟨kept_cell g ?_, kept_cell g c4, kept_frozen g c4 (World.frozen?_alloc_at _ _ _ _ (by simp)), ?_, ?_⟩
  · rw [World.cell?_alloc_lt _ _ ⟨w.heap.size, 0, none⟩ (by simp), World.cell?_alloc_new]; rfl
  · have := bw.size; simp at this; omega
  · exact (((Below.refl _ w).alloc (Nat.le_refl _) _).alloc (by simp) _).trans (bw.mono (by simp; omega))
/-- rlp.check, where it does not look into a list. -/
def Leaf (s : ByteArray) (d : Nat) (r : Option Nat) : Prop :=
  match Rlp.first s.data.toList with
  | .error e => r = some e
  | .ok (l, f, n) => (f + n ≠ s.size ∧ r = some (f + n)) ∨ (f + n = s.size ∧ l = false ∧ r = none) ∨ (f + n = s.size ∧ l = true ∧ d = 0 ∧ r = some 0)
end Go.Proofs.YtlbebdkockejcaaGreatDoor
namespace Go.Proofs.YtlbebdkockejcaaGreatDoor
open Go.RowKit Go.Shelf
attribute [local go_sem] Oper.semAt_some
set_option linter.unusedVariables false
set_option linter.unusedSimpArgs false
theorem chkL_append (f : ByteArray → Option Nat) (l r : List Told) (h : chkL f l ≠ none) : chkL f (l ++ r) = chkL f l := by
  induction l with
  | nil => exact absurd rfl h
  | cons x t ih =>
    obtain ⟨b, o⟩ := x
    cases o with
    | some e => rfl
    | none =>
      simp only [chkL, List.cons_append] at h ⊢
      cases hb : f b with
      | some e => simp
      | none => simp only [hb] at h ⊢; exact ih h
/-- The two boxes lie as they lay. -/
theorem check_boxes (w : World) (d : Int) {w1 : World} (bw : Below ((w.alloc (.cells #[.int .i64 d] 3)).alloc (.cells #[.nilIface] 94)).heap.size ((w.alloc (.cells #[.int .i64 d] 3)).alloc (.cells #[.nilIface] 94)) w1) :
    Boxed w1 w.heap.size 3 (.int .i64 d) ∧ Boxed w1 (w.heap.size + 1) 94 .nilIface := by
  have g := grown_of_below bw
  have b0 := (Boxed.new w 3 (.int .i64 d)).alloc (.cells #[.nilIface] 94)
  have b1 := Boxed.new (w.alloc (.cells #[.int .i64 d] 3)) 94 .nilIface
  simp only [World.size_alloc] at b1
  exact ⟨b0.kept g (by simp), b1.kept g (by simp)⟩
theorem laid2_below {w w' : World} (h : Laid2 w) {B : Nat} (k : Below B w w') (hB : 0 < B) : Laid2 w' := by
  unfold Laid2 at *
  rw [World.cell?_of_block (k.block _ hB)]
  exact h
theorem toldErr_none : toldErr none = .nilIface := rfl
theorem toldErr_some (e : Nat) : toldErr (some e) = .iface 168 (.agg #[.int .i64 (e : Int), .int .i64 2]) := rfl
theorem keeps_below {W w1 : World} (h : Below W.heap.size W w1) : KeepsOthers W w1 := KeepsOthers.of_grownBy (grown_of_below h) (fun j o e => by cases e)
/-- One result that lies in memory, by its box. -/
theorem results_box1 {fn : Func} (h : fn.results = #[.cell 4 94]) (tmps : Array Value) (w : World) (a : Nat) (h4 : tmps[4]?.getD undef = .pointer (some ⟨a, 0, none⟩)) {x : Value} (hx : Boxed w a 94 x) :
    (results fn tmps).run Tryz.prog w = .ok x w := results_cell1 h tmps w a h4 hx.cell
theorem leaf_of (s : ByteArray) (d : Nat) (h : ∀ l f n, Rlp.first s.data.toList = .ok (l, f, n) → f + n = s.size → l = true → d = 0) : Leaf s d (chk d s) := by
  unfold Leaf
  obtain ⟨g, e, h0⟩ : ∃ g : ByteArray → Option Nat, chk d s = chkTop g s ∧ (d = 0 → g = fun _ => some 0) := by
    cases d with
    | zero => exact ⟨_, rfl, fun _ => rfl⟩
    | succ d => exact ⟨_, rfl, fun h => by cases h⟩
  rcases hT : Rlp.first s.data.toList with er | ⟨l, f, n⟩
  · simp only
    rw [e, chkTop, hT]
  · simp only
    rw [e, chkTop, hT]
    simp only
    by_cases h1 : f + n = s.size
    · rw [if_neg (by simpa using h1)]
      cases l with
      | false => exact .inr (.inl ⟨h1, rfl, rfl⟩)
      | true =>
        have := h _ _ _ hT h1 rfl
        rw [h0 this]
        exact .inr (.inr ⟨h1, rfl, this, rfl⟩)
    · rw [if_pos h1]
      exact .inl ⟨h1, rfl⟩
/-- What Check tells. -/
def chkNo (s : ByteArray) : Int := if (chk 32 s).isSome then 2 else 0
end Go.Proofs.YtlbebdkockejcaaGreatDoor
namespace Go.Proofs.Rlp
theorem strip_cons_ne {l : List UInt8} {b : UInt8} {r : List UInt8} (h : strip l = b :: r) : b ≠ 0 := by
  induction l with
  | nil => cases h
  | cons x t ih =>
    unfold strip at h ih
    rw [List.dropWhile_cons] at h
    split at h
    · exact ih h
    · next hx =>
      cases h
      simpa using hx
theorem digs_ge {n : Nat} (hn : n < 18446744073709551616) {b : UInt8} {r : List UInt8} (h : digs n = b :: r) : 256 ^ r.length ≤ n := by
  have h1 := val_digs n hn
  rw [h, val_cons] at h1
  have hb : b ≠ 0 := strip_cons_ne h
  have hb1 : 1 ≤ b.toNat := by
    rcases Nat.eq_zero_or_pos b.toNat with h0 | h0
    · exact absurd (UInt8.toNat_inj.1 (by simpa using h0)) hb
    · exact h0
  have : 1 * 256 ^ r.length ≤ b.toNat * 256 ^ r.length := Nat.mul_le_mul_right _ hb1
  omega
theorem digs_mono {n m : Nat} (hm : m < 18446744073709551616) (h : n ≤ m) : (digs n).length ≤ (digs m).length := by
  rcases hd : digs n with _ | ⟨b, r⟩
  · simp
  · have h1 := digs_ge (by omega) hd
    have h2 := val_lt (digs m)
    rw [val_digs m hm] at h2
    rcases Nat.lt_or_ge (digs m).length (r.length + 1) with h3 | h3
    · have : 256 ^ (digs m).length ≤ 256 ^ r.length := Nat.pow_le_pow_right (by omega) (by omega)
      omega
    · simpa using h3
theorem head_short (t n : Nat) (h : n ≤ 55) : head t n = [UInt8.ofNat (t + n)] := by rw [head, if_pos h]
theorem text_length (b : List UInt8) (h : b.length ≤ 55) : (text b).length = if own b then 1 else 1 + b.length := by
  unfold text
  split
  · next ho => obtain ⟨c, rfl, _⟩ := own_one ho; rfl
  · rw [head_short _ _ h]; simp; omega
theorem num_small : ∀ n : Fin 128, (num n.val).length = 1 := by decide +kernel
theorem num_mono {n m : Nat} (hm : m < 18446744073709551616) (h : n ≤ m) : (num n).length ≤ (num m).length := by
  have l1 := digs_length n
  have l2 := digs_length m
  have h1 := digs_mono hm h
  have e1 := text_length (digs n) (by omega)
  have e2 := text_length (digs m) (by omega)
  by_cases hs : n < 128
  · have := num_small ⟨n, hs⟩
    simp only at this
    rw [this]
    show 1 ≤ (text (digs m)).length
    rw [e2]
    split <;> omega
  · have ho : own (digs m) = false := by
      cases hb : own (digs m) with
      | false => rfl
      | true =>
        obtain ⟨b, hb1, hb2⟩ := own_one hb
        have := val_digs m hm
        rw [hb1] at this
        simp [val] at this
        have : b.toNat < 128 := by simpa [UInt8.lt_iff_toNat_lt] using hb2
        omega
    show (text (digs n)).length ≤ (text (digs m)).length
    rw [e1, e2, ho]
    simp only [Bool.false_eq_true, if_false]
    split <;> omega
theorem num_length (n : Nat) : (num n).length ≤ 9 := by
  have l1 := digs_length n
  have e1 := text_length (digs n) (by omega)
  show (text (digs n)).length ≤ 9
  rw [e1]
  split <;> omega
theorem getnum_lt {s : List UInt8} {v : Nat} (h : getnum s = some v) : v < 18446744073709551616 := by
  unfold getnum at h
  split at h
  · cases h
  · split at h
    · cases h
    · next f n _ hn =>
      split at h
      · cases h
        have h1 := val_lt (mid s f n)
        have h2 : (mid s f n).length ≤ 8 := by simp [mid]; omega
        have h3 : 256 ^ (mid s f n).length ≤ 256 ^ 8 := Nat.pow_le_pow_right (by omega) h2
        omega
      · cases h
theorem size_append {s y : List UInt8} {told f n : Nat} (h : size s told = .ok (f, n)) : size (s ++ y) told = .ok (f, n) := by
  unfold size at h ⊢
  split at h
  · next h1 =>
    rw [if_pos h1]
    split at h
    · next h2 => rw [if_pos (by simp; omega)]; exact h
    · cases h
  · next h1 =>
    rw [if_neg h1]
    simp only at h ⊢
    split at h
    · cases h
    · next h2 =>
      have h3 : told - 54 ≤ s.length := by omega
      have h4 : (s ++ y)[1]? = s[1]? := by rw [List.getElem?_append_left (by omega)]
      have h5 : (s ++ y).take (told - 54) = s.take (told - 54) := by rw [List.take_append_of_le_length h3]
      rw [if_neg (by
        rw [h4, List.length_append]
        rintro (h | h | h)
        · exact h2 (.inl h)
        · exact h2 (.inr (.inl (by omega)))
        · exact h2 (.inr (.inr h))), h5]
      split at h
      · cases h
      · next h6 =>
        rw [if_neg h6]
        split at h
        · next h7 => rw [if_pos (by rw [List.length_append]; omega)]; exact h
        · cases h
/-- What stands behind an item changes nothing. -/
theorem first_append {s y : List UInt8} {l : Bool} {f n : Nat} (h : first s = .ok (l, f, n)) : first (s ++ y) = .ok (l, f, n) := by
  rcases s with _ | ⟨c, r⟩
  · cases h
  · rw [first] at h
    rw [List.cons_append, first]
    by_cases h1 : c < 128
    · rw [if_pos h1] at h ⊢; exact h
    · rw [if_neg h1] at h ⊢
      by_cases h2 : c < 192
      · rw [if_pos h2] at h ⊢
        rcases hs : size (c :: r) (c.toNat - 128) with e | ⟨f', n'⟩
        · simp [hs] at h
        · have := size_append (y := y) hs
          rw [List.cons_append] at this
          have hk := size_ok hs
          simp only [hs] at h
          simp only [this]
          have e : f' = 1 ∧ n' = 1 → (r ++ y).take 1 = r.take 1 := fun ⟨a, b⟩ => by rw [List.take_append_of_le_length (by simp at hk; omega)]
          by_cases h4 : f' = 1 ∧ n' = 1 ∧ own (r.take 1) = true
          · rw [if_pos h4] at h; cases h
          · rw [if_neg h4] at h
            rw [if_neg (fun h5 => h4 ⟨h5.1, h5.2.1, by rw [← e ⟨h5.1, h5.2.1⟩]; exact h5.2.2⟩)]
            exact h
      · rw [if_neg h2] at h ⊢
        rcases hs : size (c :: r) (c.toNat - 192) with e | ⟨f', n'⟩
        · simp [hs] at h
        · have := size_append (y := y) hs
          rw [List.cons_append] at this
          simp only [hs] at h
          simp only [this]
          exact h
/-- An item that ends too early is none. -/
theorem first_cut {s : List UInt8} {l : Bool} {f n : Nat} (h : first s = .ok (l, f, n)) (hw : f + n = s.length) (k : Nat) (hk : k < s.length) : ∃ e, first (s.take k) = .error e := by
  rcases hT : first (s.take k) with e | ⟨l', f', n'⟩
  · exact ⟨e, rfl⟩
  · have h1 := first_append (y := s.drop k) hT
    rw [List.take_append_drop, h] at h1
    have h2 := (first_ok hT).1
    simp at h1 h2
    omega
/-- What an item's head tells. -/
theorem size_head (t n : Nat) (y : List UInt8) (hn : n ≤ 1048576) (hy : n ≤ y.length) : size (head t n ++ y) (if n ≤ 55 then n else 55 + (digs n).length) = .ok ((head t n).length, n) := by
  by_cases h : n ≤ 55
  · rw [if_pos h, head_short t n h, size, if_pos h, if_pos (by simp; omega)]
    rfl
  · rw [if_neg h]
    have h1 : head t n = UInt8.ofNat (t + 55 + (digs n).length) :: digs n := by rw [head, if_neg h]
    have hv := val_digs n (by omega)
    rcases hd : digs n with _ | ⟨b, r⟩
    · rw [hd] at hv; simp [val] at hv; omega
    · have hge := digs_ge (by omega) hd
      have hb := strip_cons_ne (show strip (be8 n) = b :: r from hd)
      have hr : r.length ≤ 2 := by
        rcases Nat.lt_or_ge r.length 3 with h3 | h3
        · omega
        · have : 256 ^ 3 ≤ 256 ^ r.length := Nat.pow_le_pow_right (by omega) h3
          omega
      rw [hd] at h1 hv
      rw [h1, size, if_neg (by simp)]
      simp only [List.length_cons, List.cons_append, List.length_append]
      have e1 : 55 + (r.length + 1) - 54 = r.length + 2 := by omega
      rw [e1, if_neg (by simp [hb]; omega)]
      have e2 : (List.take (r.length + 2) (UInt8.ofNat (t + 55 + (r.length + 1)) :: b :: (r ++ y))).drop 1 = b :: r := by
        simp
      rw [e2, hv, if_neg (by omega), if_pos (by omega)]
theorem head_byte (t n : Nat) (ht : t = 128 ∨ t = 192) (hn : n ≤ 1048576) : ∃ c r, head t n = c :: r ∧ c.toNat = t + (if n ≤ 55 then n else 55 + (digs n).length) := by
  have hl := digs_length n
  by_cases h : n ≤ 55
  · exact ⟨_, _, head_short t n h, by rw [if_pos h]; simp; omega⟩
  · exact ⟨_, _, by rw [head, if_neg h], by rw [if_neg h]; simp; omega⟩
theorem digs_len3 (n : Nat) (hn : n ≤ 1048576) : (digs n).length ≤ 3 := by
  rcases hd : digs n with _ | ⟨b, r⟩
  · simp
  · have hge := digs_ge (by omega) hd
    rcases Nat.lt_or_ge r.length 3 with h3 | h3
    · simp only [List.length_cons]; omega
    · have : 256 ^ 3 ≤ 256 ^ r.length := Nat.pow_le_pow_right (by omega) h3
      omega
theorem first_list_body (y : List UInt8) (hn : y.length ≤ 1048576) : first (head 192 y.length ++ y) = .ok (true, (head 192 y.length).length, y.length) := by
  obtain ⟨c, r, hc, hv⟩ := head_byte 192 y.length (.inr rfl) hn
  have hs := size_head 192 y.length y hn (Nat.le_refl _)
  have h3 := digs_len3 y.length hn
  have e : c.toNat - 192 = (if y.length ≤ 55 then y.length else 55 + (digs y.length).length) := by omega
  rw [hc, List.cons_append] at hs ⊢
  have g1 : ¬ c < 128 := by rw [UInt8.lt_iff_toNat_lt]; show ¬ c.toNat < 128; omega
  have g2 : ¬ c < 192 := by rw [UInt8.lt_iff_toNat_lt]; show ¬ c.toNat < 192; omega
  rw [first, if_neg g1, if_neg g2, e, hs]
theorem first_text_any (y : List UInt8) (hn : y.length ≤ 1048576) (ho : own y = false) : first (head 128 y.length ++ y) = .ok (false, (head 128 y.length).length, y.length) := by
  obtain ⟨c, r, hc, hv⟩ := head_byte 128 y.length (.inl rfl) hn
  have hs := size_head 128 y.length y hn (Nat.le_refl _)
  have h3 := digs_len3 y.length hn
  have e : c.toNat - 128 = (if y.length ≤ 55 then y.length else 55 + (digs y.length).length) := by omega
  have hr : (head 128 y.length).length = 1 → r = [] := fun h => by rw [hc] at h; simpa using h
  rw [hc, List.cons_append] at hs ⊢
  rw [first, if_neg (by rw [UInt8.lt_iff_toNat_lt, hv]; simp), if_pos (by rw [UInt8.lt_iff_toNat_lt, hv]; split <;> simp <;> omega), e, hs]
  simp only
  rw [if_neg]
  rintro ⟨h1, h2, h4⟩
  rw [hr (by rw [hc]; exact h1)] at h4
  obtain ⟨z, hz⟩ : ∃ z, y = [z] := by
    rcases y with _ | ⟨z, _ | ⟨z2, t⟩⟩
    · simp at h2
    · exact ⟨z, rfl⟩
    · simp at h2
  subst hz
  rw [List.nil_append] at h4
  simp only [List.take_succ_cons, List.take_zero] at h4
  rw [ho] at h4
  cases h4
/-- The item that a text is. -/
theorem first_whole (b : List UInt8) (hb : b.length ≤ 1048576) : ∃ f n, first (text b) = .ok (false, f, n) ∧ f + n = (text b).length ∧ mid (text b) f n = b := by
  unfold text
  cases ho : own b with
  | true =>
    obtain ⟨c, rfl, hc⟩ := own_one ho
    exact ⟨0, 1, by simp [first, hc], rfl, rfl⟩
  | false =>
    simp only [Bool.false_eq_true, if_false]
    exact ⟨_, _, first_text_any b hb ho, by simp, by rw [mid, List.take_of_length_le (by simp), List.drop_left]⟩
theorem text_inj {b c : List UInt8} (hb : b.length ≤ 1048576) (hc : c.length ≤ 1048576) (h : text b = text c) : b = c := by
  obtain ⟨f, n, h1, h2, h3⟩ := first_whole b hb
  obtain ⟨f', n', h1', h2', h3'⟩ := first_whole c hc
  rw [← h, h1] at h1'
  simp only [Except.ok.injEq, Prod.mk.injEq, true_and] at h1'
  obtain ⟨rfl, rfl⟩ := h1'
  rw [← h3, ← h3', h]
/-- The items of a row; none, if one is wrong. -/
def its : Nat → List UInt8 → Option (List (List UInt8))
  | 0, _ => some []
  | _ + 1, [] => some []
  | m + 1, c :: r =>
    match first (c :: r) with
    | .error _ => none
    | .ok (_, f, n) => (its m ((c :: r).drop (f + n))).map ((c :: r).take (f + n) :: ·)
theorem its_nil (m : Nat) : its m [] = some [] := by cases m <;> rfl
theorem its_ok {m : Nat} {s : List UInt8} {l : Bool} {f n : Nat} (h : first s = .ok (l, f, n)) : its (m + 1) s = (its m (s.drop (f + n))).map (s.take (f + n) :: ·) := by
  rcases s with _ | ⟨c, r⟩
  · cases h
  · rw [its, h]
theorem its_bad {m e : Nat} {c : UInt8} {r : List UInt8} (h : first (c :: r) = .error e) : its (m + 1) (c :: r) = none := by rw [its, h]
theorem its_fuel (m : Nat) : ∀ (k : Nat) (s : List UInt8), s.length ≤ m → s.length ≤ k → its m s = its k s := by
  induction m with
  | zero => intro k s h _; rw [List.length_eq_zero_iff.1 (show s.length = 0 by omega), its_nil, its_nil]
  | succ m ih =>
    intro k s h hk
    rcases s with _ | ⟨c, r⟩
    · rw [its_nil, its_nil]
    · obtain ⟨k', rfl⟩ : ∃ k', k = k' + 1 := ⟨k - 1, by simp at hk; omega⟩
      rcases hT : first (c :: r) with e | ⟨l, f, n⟩
      · rw [its_bad hT, its_bad hT]
      · have h2 := first_ok hT
        rw [its_ok hT, its_ok hT, ih k' _ (by simp at h h2 ⊢; omega) (by simp at hk h2 ⊢; omega)]
/-- Rows, one behind the other. -/
theorem its_append (m : Nat) : ∀ (k : Nat) (a b : List UInt8) (xs : List (List UInt8)), a.length ≤ m → a.length + b.length ≤ k → its m a = some xs → its k (a ++ b) = (its k b).map (xs ++ ·) := by
  induction m with
  | zero =>
    intro k a b xs h hk hx
    obtain rfl := List.length_eq_zero_iff.1 (show a.length = 0 by omega)
    rw [its_nil] at hx
    cases hx
    cases hb : its k b <;> simp [hb]
  | succ m ih =>
    intro k a b xs h hk hx
    rcases a with _ | ⟨c, r⟩
    · rw [its_nil] at hx
      cases hx
      cases hb : its k b <;> simp [hb]
    · obtain ⟨k', rfl⟩ : ∃ k', k = k' + 1 := ⟨k - 1, by simp at hk; omega⟩
      rcases hT : first (c :: r) with e | ⟨l, f, n⟩
      · rw [its_bad hT] at hx; cases hx
      · have h2 := first_ok hT
        rw [its_ok hT] at hx
        rw [its_ok (first_append hT)]
        rcases hr : its m ((c :: r).drop (f + n)) with _ | ys
        · rw [hr] at hx; cases hx
        · rw [hr] at hx
          simp only [Option.map_some, Option.some.injEq] at hx
          subst hx
          rw [List.take_append_of_le_length h2.1, List.drop_append_of_le_length h2.1]
          rw [ih k' _ b ys (by simp at h h2 ⊢; omega) (by simp at hk h2 ⊢; omega) hr]
          rw [its_fuel k' (k' + 1) b (by simp at hk; omega) (by simp at hk; omega)]
          cases its (k' + 1) b <;> simp
theorem its_one (m : Nat) (s : List UInt8) (l : Bool) (f n : Nat) (hm : 1 ≤ m) (h : first s = .ok (l, f, n)) (hw : f + n = s.length) : its m s = some [s] := by
  obtain ⟨m', rfl⟩ : ∃ m', m = m' + 1 := ⟨m - 1, by omega⟩
  rw [its_ok h, hw, List.drop_length, List.take_length, its_nil]
  rfl
end Go.Proofs.Rlp
namespace Go.Proofs.YtlbebdkockejcaaGreatDoor
open Go.RowKit
/-- What is told of a row. -/
theorem each_its (s : ByteArray) (m : Nat) : ∀ k, s.size ≤ k + m →
    match Rlp.its m (s.data.toList.drop k) with
    | none => ¬ Fine (eachF s m k)
    | some xs => eachF s m k = xs.map fun l => (Nib.bs l, none) := by
  induction m with
  | zero =>
    intro k h
    rfl
  | succ m ih =>
    intro k h
    by_cases hk : k < s.size
    · have hd : (s.extract k s.size).data.toList = s.data.toList.drop k := by rw [Lib.extract_data]; exact List.take_of_length_le (by simp)
      rw [eachF, if_pos hk, hd]
      rcases hs : s.data.toList.drop k with _ | ⟨c, r⟩
      · have := congrArg List.length hs
        simp at this
        omega
      · rcases hT : Rlp.first (c :: r) with e | ⟨l, f, n⟩
        · rw [Rlp.its_bad hT]
          simp only
          intro hf
          have := hf _ (List.mem_singleton.2 rfl)
          cases this
        · rw [Rlp.its_ok hT]
          simp only
          have h2 := Rlp.first_ok hT
          have e1 : (c :: r).drop (f + n) = s.data.toList.drop (k + (f + n)) := by rw [← hs, List.drop_drop]
          have e2 : s.extract k (k + (f + n)) = Nib.bs ((c :: r).take (f + n)) := by
            rw [← Nib.bs_of (s.extract k (k + (f + n))), Lib.extract_data, ← hs]
            congr 2
            omega
          have := ih (k + (f + n)) (by omega)
          rw [e1]
          rcases hi : Rlp.its m (s.data.toList.drop (k + (f + n))) with _ | ys
          · rw [hi] at this
            simp only [Option.map_none] at this ⊢
            intro hf
            exact this (fun x hx => hf x (by simp [hx]))
          · rw [hi] at this
            simp only [Option.map_some] at this ⊢
            rw [this, e2]
            rfl
    · have hd : s.data.toList.drop k = [] := List.drop_eq_nil_of_le (by simp; omega)
      rw [hd, Rlp.its_nil, eachF_done s _ _ hk]
      rfl
theorem fine_map (xs : List (List UInt8)) : Fine (xs.map fun l => (Nib.bs l, none)) := by
  intro x hx
  obtain ⟨l, _, rfl⟩ := List.mem_map.1 hx
  rfl
/-- The items of a text. -/
def rows (s : ByteArray) : Option (List (List UInt8)) := Rlp.its s.size s.data.toList
theorem each_rows (s : ByteArray) :
    match rows s with
    | none => ¬ Fine (eachF s s.size 0)
    | some xs => eachF s s.size 0 = xs.map fun l => (Nib.bs l, none) := by
  have := each_its s s.size 0 (by omega)
  rw [List.drop_zero] at this
  exact this
theorem rows_none {s : ByteArray} (h : rows s = none) : ¬ Fine (eachF s s.size 0) := by
  have := each_rows s
  rw [h] at this
  exact this
theorem rows_some {s : ByteArray} {xs : List (List UInt8)} (h : rows s = some xs) : eachF s s.size 0 = xs.map fun l => (Nib.bs l, none) := by
  have := each_rows s
  rw [h] at this
  exact this
theorem rows_append (a b : ByteArray) {xs : List (List UInt8)} (h : rows a = some xs) : rows (a ++ b) = (rows b).map (xs ++ ·) := by
  unfold rows at *
  rw [Nib.data_append, Rlp.its_append a.size (a ++ b).size _ _ xs (by simp) (by simp) h, Rlp.its_fuel (a ++ b).size b.size b.data.toList (by simp) (by simp)]
end Go.Proofs.YtlbebdkockejcaaGreatDoor
