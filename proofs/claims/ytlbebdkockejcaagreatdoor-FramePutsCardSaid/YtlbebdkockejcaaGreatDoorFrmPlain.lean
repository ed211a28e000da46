/-
  The functions of layer 16 (frame) on plain data, and what holds of them.
-/
import Derived.Test.YtlbebdkockejcaaGreatDoorGaNodeA
import Derived.Test.YtlbebdkockejcaaGreatDoorGaMore
import Derived.Test.YtlbebdkockejcaaGreatDoorGaMdA
namespace Go.Proofs.Frm
set_option linter.unusedVariables false
open Go.Proofs.Nib (bs)
open Go.Proofs.Nod (textB listB readText splitB)
open Go.Proofs.Mdl (Ent Chg)
abbrev z0 : ByteArray := ⟨#[]⟩
structure Ask where
  kind : Int
  session : Int
  seq : Int
  at_ : Int
  key : ByteArray
  to_ : ByteArray
  limit : Int
deriving DecidableEq
structure Rep where
  session : Int
  seq : Int
  err : Int
  version : Int
  root : ByteArray
  entries : List Ent
  proof : ByteArray
  more : Bool
deriving DecidableEq
structure Ntc where
  session : Int
  err : Int
  block : Int
  root : ByteArray
  changes : List Chg
deriving DecidableEq
def zeroA : Ask := ⟨0, 0, 0, 0, z0, z0, 0⟩
def zeroR : Rep := ⟨0, 0, 0, 0, z0, [], z0, false⟩
def zeroN : Ntc := ⟨0, 0, 0, z0, []⟩
/-- A number is from one to another. -/
def wi (n a b : Int) : Bool := decide (a ≤ n) && decide (n ≤ b)
theorem wi_iff {n a b : Int} : wi n a b = true ↔ a ≤ n ∧ n ≤ b := by simp [wi]
/-- An ask may be. -/
def validA (a : Ask) : Bool :=
  wi a.kind 0 9 && wi a.seq 1 1048576 && (if a.kind = 0 then decide (a.session = 0) else wi a.session 1 1048576) &&
  (if a.kind = 0 ∨ a.kind = 7 then wi a.at_ (-1) 1048576 else decide (a.at_ = 0)) &&
  (if a.kind = 1 ∨ a.kind = 2 ∨ a.kind = 3 ∨ a.kind = 4 then decide (a.key.size ≤ 6) else decide (a.key.size = 0)) &&
  (if a.kind = 4 then decide (a.to_.size ≤ 6) else decide (a.to_.size = 0)) &&
  (if a.kind = 2 ∨ a.kind = 4 then wi a.limit 1 8 else decide (a.limit = 0))
def rootOk (s : ByteArray) : Bool := decide (s.size = 0) || decide (s.size = 32)
def smallE (e : Ent) : Bool := decide (e.k.size ≤ 6) && decide (e.v.size ≤ 80)
def smallC (c : Chg) : Bool := decide (c.k.size ≤ 6) && decide (c.v.size ≤ 80)
def validR (r : Rep) : Bool :=
  wi r.session 0 1048576 && wi r.seq 0 1048576 && wi r.version 0 1048576 && wi r.err 0 12 && rootOk r.root &&
  decide (r.proof.size ≤ 65536) && decide (r.entries.length ≤ 8) && r.entries.all smallE
def validN (n : Ntc) : Bool :=
  wi n.session 0 1048576 && wi n.block 0 1048576 && (decide (n.err = 0) || decide (n.err = 11)) && rootOk n.root &&
  decide (n.changes.length ≤ 80) && n.changes.all smallC
/-- A number as an item. -/
def numZ (n : Int) : ByteArray := bs (Rlp.num n.toNat)
def flagB (b : Bool) : ByteArray := numZ (if b then 1 else 0)
def itemsA (a : Ask) : List ByteArray := [numZ 0, numZ a.kind, numZ a.session, numZ a.seq, numZ (a.at_ + 1), textB a.key, textB a.to_, numZ a.limit]
def entB (e : Ent) : ByteArray := listB [textB e.k, textB e.v]
def chgB (c : Chg) : ByteArray := listB [textB c.k, textB c.v, flagB c.gone]
def itemsR (r : Rep) : List ByteArray := [numZ 1, numZ r.session, numZ r.seq, numZ r.err, numZ r.version, textB r.root, listB (r.entries.map entB), textB r.proof, flagB r.more]
def itemsN (n : Ntc) : List ByteArray := [numZ 2, numZ n.session, numZ n.err, numZ n.block, textB n.root, listB (n.changes.map chgB)]
def putA (a : Ask) : ByteArray := listB (itemsA a)
def putR (r : Rep) : ByteArray := listB (itemsR r)
def putN (n : Ntc) : ByteArray := listB (itemsN n)
/-- What a reader has still to read, and whether something was wrong. -/
structure Rd where
  items : List ByteArray
  bad : Bool
deriving DecidableEq
/-- What stands in the one list that bytes are. -/
def wholeB (s : ByteArray) : Option ByteArray := match Rlp.first s.data.toList with
  | .ok (true, f, n) => if f + n = s.size then some (s.extract f (f + n)) else none
  | _ => none
def itemsF (s : ByteArray) : Option (List ByteArray) := (Rlp.its s.size s.data.toList).map (·.map bs)
def newR (s : ByteArray) : Rd := match wholeB s with
  | none => ⟨[], true⟩
  | some b => match itemsF b with
    | none => ⟨[], true⟩
    | some l => ⟨l, false⟩
def next (r : Rd) : ByteArray × Rd := match r.items with
  | [] => (z0, ⟨[], true⟩)
  | x :: t => (x, ⟨t, r.bad⟩)
def numOk (x : ByteArray) : Option Nat := match Rlp.getnum x.data.toList with
  | some n => if n ≤ 1048577 then some n else none
  | none => none
def rdNum (r : Rd) : Int × Rd := match numOk (next r).1 with
  | some n => ((n : Int), (next r).2)
  | none => (0, ⟨(next r).2.items, true⟩)
def rdText (r : Rd) : ByteArray × Rd := match readText (next r).1 with
  | some b => (b, (next r).2)
  | none => (z0, ⟨(next r).2.items, true⟩)
def rdList (r : Rd) : List ByteArray × Rd := ((newR (next r).1).items, ⟨(next r).2.items, (next r).2.bad || (newR (next r).1).bad⟩)
def entR (r : Rd) : Ent × Rd := (⟨(rdText r).1, (rdText (rdText r).2).1⟩, (rdText (rdText r).2).2)
def chgR (r : Rd) : Chg × Rd :=
  (⟨(rdText r).1, (rdText (rdText r).2).1, decide ((rdNum (rdText (rdText r).2).2).1 = 1)⟩, (rdNum (rdText (rdText r).2).2).2)
/-- The things of a list. -/
def rowsR {T : Type} (each : Rd → T × Rd) (l : List ByteArray) (b : Bool) : List T × Bool := (l.map (fun x => (each (newR x)).1), b || l.any (fun x => (each (newR x)).2.bad))
def rdRows {T : Type} (each : Rd → T × Rd) (r : Rd) : List T × Rd :=
  ((rdList r).1.map (fun x => (each (newR x)).1), ⟨(rdList r).2.items, (rdList r).2.bad || (rdList r).1.any (fun x => (each (newR x)).2.bad)⟩)
def askR (r0 : Rd) : Ask × Rd :=
  let k := rdNum r0
  let s := rdNum k.2
  let q := rdNum s.2
  let a := rdNum q.2
  let x := rdText a.2
  let y := rdText x.2
  let l := rdNum y.2
  (⟨k.1, s.1, q.1, a.1 - 1, x.1, y.1, l.1⟩, l.2)
def repR (r0 : Rd) : Rep × Rd :=
  let s := rdNum r0
  let q := rdNum s.2
  let e := rdNum q.2
  let v := rdNum e.2
  let t := rdText v.2
  let l := rdRows entR t.2
  let p := rdText l.2
  let m := rdNum p.2
  (⟨s.1, q.1, e.1, v.1, t.1, l.1, p.1, decide (m.1 = 1)⟩, m.2)
def ntcR (r0 : Rd) : Ntc × Rd :=
  let s := rdNum r0
  let e := rdNum s.2
  let b := rdNum e.2
  let t := rdText b.2
  let l := rdRows chgR t.2
  (⟨s.1, e.1, b.1, t.1, l.1⟩, l.2)
/-- The thing of a kind of which bytes are the frame. -/
def read {T : Type} (kind : Int) (each : Rd → T × Rd) (valid : T → Bool) (put : T → ByteArray) (s : ByteArray) : Option T :=
  let k := rdNum (newR s)
  let x := each ⟨k.2.items, k.2.bad || decide (k.1 ≠ kind)⟩
  if x.2.bad = false ∧ x.2.items = [] ∧ valid x.1 = true ∧ put x.1 = s then some x.1 else none
def getA : ByteArray → Option Ask := read 0 askR validA putA
def getR : ByteArray → Option Rep := read 1 repR validR putR
def getN : ByteArray → Option Ntc := read 2 ntcR validN putN
def kindB (s : ByteArray) : Int := if (getA s).isSome then 0 else if (getR s).isSome then 1 else if (getN s).isSome then 2 else -1
/-! What is bad stays bad. -/
theorem next_bad {r : Rd} (h : r.bad = true) : (next r).2.bad = true := by
  unfold next
  split
  · rfl
  · exact h
theorem rdNum_bad {r : Rd} (h : r.bad = true) : (rdNum r).2.bad = true := by
  unfold rdNum
  split
  · exact next_bad h
  · rfl
theorem rdText_bad {r : Rd} (h : r.bad = true) : (rdText r).2.bad = true := by
  unfold rdText
  split
  · exact next_bad h
  · rfl
theorem rdRows_bad {T : Type} {each : Rd → T × Rd} {r : Rd} (h : r.bad = true) : (rdRows each r).2.bad = true := by
  simp [rdRows, rdList, next_bad h]
theorem askR_bad {r : Rd} (h : r.bad = true) : (askR r).2.bad = true := rdNum_bad (rdText_bad (rdText_bad (rdNum_bad (rdNum_bad (rdNum_bad (rdNum_bad h))))))
theorem repR_bad {r : Rd} (h : r.bad = true) : (repR r).2.bad = true := rdNum_bad (rdText_bad (rdRows_bad (rdText_bad (rdNum_bad (rdNum_bad (rdNum_bad (rdNum_bad h)))))))
theorem ntcR_bad {r : Rd} (h : r.bad = true) : (ntcR r).2.bad = true := rdRows_bad (rdText_bad (rdNum_bad (rdNum_bad (rdNum_bad h))))
theorem read_some {T : Type} {kind : Int} {each : Rd → T × Rd} {valid : T → Bool} {put : T → ByteArray} (hb : ∀ r, r.bad = true → (each r).2.bad = true) {s : ByteArray} {x : T} (h : read kind each valid put s = some x) : valid x = true ∧ put x = s ∧ (newR s).bad = false ∧ (rdNum (newR s)).1 = kind := by
  unfold read at h
  simp only at h
  split at h
  · next hh =>
    cases h
    refine ⟨hh.2.2.1, hh.2.2.2, ?_, ?_⟩
    · rcases hx : (newR s).bad with _ | _
      · rfl
      · have := hb ⟨(rdNum (newR s)).2.items, (rdNum (newR s)).2.bad || decide ((rdNum (newR s)).1 ≠ kind)⟩ (by simp [rdNum_bad hx])
        rw [this] at hh
        cases hh.1
    · by_cases hk : (rdNum (newR s)).1 = kind
      · exact hk
      · have := hb ⟨(rdNum (newR s)).2.items, (rdNum (newR s)).2.bad || decide ((rdNum (newR s)).1 ≠ kind)⟩ (by simp [hk])
        rw [this] at hh
        cases hh.1
  · cases h
theorem getA_some {s : ByteArray} {x : Ask} (h : getA s = some x) : validA x = true ∧ putA x = s ∧ (newR s).bad = false ∧ (rdNum (newR s)).1 = 0 := read_some (fun _ h => askR_bad h) h
theorem getR_some {s : ByteArray} {x : Rep} (h : getR s = some x) : validR x = true ∧ putR x = s ∧ (newR s).bad = false ∧ (rdNum (newR s)).1 = 1 := read_some (fun _ h => repR_bad h) h
theorem getN_some {s : ByteArray} {x : Ntc} (h : getN s = some x) : validN x = true ∧ putN x = s ∧ (newR s).bad = false ∧ (rdNum (newR s)).1 = 2 := read_some (fun _ h => ntcR_bad h) h
/-- Bytes that are no list are nothing. -/
theorem kind_none {s : ByteArray} (h : wholeB s = none) : kindB s = -1 := by
  have hb : (newR s).bad = true := by rw [newR, h]
  have hA : getA s = none := by
    rcases hx : getA s with _ | x
    · rfl
    · have := (getA_some hx).2.2.1; rw [hb] at this; cases this
  have hR : getR s = none := by
    rcases hx : getR s with _ | x
    · rfl
    · have := (getR_some hx).2.2.1; rw [hb] at this; cases this
  have hN : getN s = none := by
    rcases hx : getN s with _ | x
    · rfl
    · have := (getN_some hx).2.2.1; rw [hb] at this; cases this
  rw [kindB, hA, hR, hN]
  rfl
/-! Items. -/
abbrev dat (xs : List ByteArray) : List (List UInt8) := xs.map (·.data.toList)
/-- A text that is one item. -/
def Item (x : ByteArray) : Prop := ∃ l f n, Rlp.first x.data.toList = .ok (l, f, n) ∧ f + n = x.size
theorem textB_item (b : ByteArray) (h : b.size ≤ 1048576) : Item (textB b) := by
  obtain ⟨f, n, h1, h2, _⟩ := Rlp.first_whole b.data.toList (by simpa using h)
  exact ⟨false, f, n, h1, by unfold textB; rw [Nib.bs_size]; exact h2⟩
theorem numZ_item (n : Int) : Item (numZ n) := by
  have := textB_item (bs (Rlp.digs n.toNat)) (by rw [Nib.bs_size]; have := Rlp.digs_length n.toNat; omega)
  exact this
theorem flagB_item (b : Bool) : Item (flagB b) := numZ_item _
theorem first_listB (xs : List ByteArray) (h : (dat xs).flatten.length ≤ 1048576) : Rlp.first (listB xs).data.toList = .ok (true, (Rlp.head 192 (dat xs).flatten.length).length, (dat xs).flatten.length) := Rlp.first_list_body _ h
theorem listB_size (xs : List ByteArray) : (listB xs).size = (Rlp.head 192 (dat xs).flatten.length).length + (dat xs).flatten.length := by
  unfold listB
  rw [Nib.bs_size]
  show (Rlp.head 192 (dat xs).flatten.length ++ (dat xs).flatten).length = _
  rw [List.length_append]
theorem listB_item (xs : List ByteArray) (h : (dat xs).flatten.length ≤ 1048576) : Item (listB xs) := ⟨_, _, _, first_listB xs h, (listB_size xs).symm⟩
theorem its_items : ∀ (xs : List ByteArray), (∀ x ∈ xs, Item x) → ∀ m, (dat xs).flatten.length ≤ m → Rlp.its m (dat xs).flatten = some (dat xs)
  | [], _, m, _ => Rlp.its_nil m
  | x :: xs, h, m, hm => by
    obtain ⟨l, f, n, h1, h2⟩ := h x (by simp)
    have hx : 1 ≤ x.data.toList.length := by
      rcases hd : x.data.toList with _ | ⟨a, r⟩
      · rw [hd] at h1; cases h1
      · simp
    have e1 := Rlp.its_one x.data.toList.length x.data.toList l f n hx h1 (by simpa using h2)
    have e2 := its_items xs (fun y hy => h y (by simp [hy])) (dat xs).flatten.length (Nat.le_refl _)
    have hd : (dat (x :: xs)).flatten = x.data.toList ++ (dat xs).flatten := rfl
    rw [hd] at hm ⊢
    rw [List.length_append] at hm
    rw [Rlp.its_append x.data.toList.length m _ _ _ (Nat.le_refl _) hm e1]
    rw [Rlp.its_fuel m (dat xs).flatten.length _ (by omega) (Nat.le_refl _), e2]
    rfl
theorem itemsF_items (xs : List ByteArray) (h : ∀ x ∈ xs, Item x) : itemsF (bs (dat xs).flatten) = some xs := by
  unfold itemsF
  rw [Nib.bs_size, Nib.bs_data, its_items xs h _ (Nat.le_refl _)]
  show some ((dat xs).map bs) = some xs
  congr 1
  rw [List.map_map]
  have : (bs ∘ fun x : ByteArray => x.data.toList) = id := by funext x; rfl
  rw [this, List.map_id]
theorem wholeB_list (xs : List ByteArray) (h : (dat xs).flatten.length ≤ 1048576) : wholeB (listB xs) = some (bs (dat xs).flatten) := by
  unfold wholeB
  rw [first_listB xs h]
  simp only
  rw [if_pos (listB_size xs).symm]
  congr 1
  apply ByteArray.ext
  apply Array.toList_inj.1
  rw [Lib.extract_data]
  show ((Rlp.head 192 (dat xs).flatten.length ++ (dat xs).flatten).drop (Rlp.head 192 (dat xs).flatten.length).length).take ((Rlp.head 192 (dat xs).flatten.length).length + (dat xs).flatten.length - (Rlp.head 192 (dat xs).flatten.length).length) = (dat xs).flatten
  rw [List.drop_left, Nat.add_sub_cancel_left, List.take_length]
theorem newR_list (xs : List ByteArray) (h : (dat xs).flatten.length ≤ 1048576) (hi : ∀ x ∈ xs, Item x) : newR (listB xs) = ⟨xs, false⟩ := by
  rw [newR, wholeB_list xs h]
  simp only [itemsF_items xs hi]
theorem readText_text (b : ByteArray) (h : b.size ≤ 1048576) : readText (textB b) = some b := by
  obtain ⟨f, n, h1, h2, h3⟩ := Rlp.first_whole b.data.toList (by simpa using h)
  unfold readText splitB
  rw [show (textB b).data.toList = Rlp.text b.data.toList from rfl, h1]
  simp only [Option.some.injEq]
  apply ByteArray.ext
  apply Array.toList_inj.1
  rw [Lib.extract_data]
  rw [← h3]
  unfold Rlp.mid
  rw [List.drop_take]
  rfl
theorem next_cons (x : ByteArray) (t : List ByteArray) (b : Bool) : next ⟨x :: t, b⟩ = (x, ⟨t, b⟩) := rfl
theorem rdNum_num (n : Int) (t : List ByteArray) (b : Bool) (h0 : 0 ≤ n) (h1 : n ≤ 1048577) : rdNum ⟨numZ n :: t, b⟩ = (n, ⟨t, b⟩) := by
  have : numOk (numZ n) = some n.toNat := by
    unfold numOk numZ
    rw [Nib.bs_data, Rlp.getnum_num n.toNat (by omega)]
    simp only
    rw [if_pos (by omega)]
  unfold rdNum
  rw [next_cons, this]
  simp only
  rw [Int.toNat_of_nonneg h0]
theorem rdText_text (x : ByteArray) (t : List ByteArray) (b : Bool) (h : x.size ≤ 1048576) : rdText ⟨textB x :: t, b⟩ = (x, ⟨t, b⟩) := by
  unfold rdText
  rw [next_cons, readText_text x h]
theorem textB_size (b : ByteArray) (h : b.size ≤ 1048576) : (textB b).size ≤ b.size + 9 := by
  unfold textB
  rw [Nib.bs_size]
  unfold Rlp.text
  split
  · simp
  · have := Rlp.head_length 128 b.data.toList.length
    simp only [List.length_append]
    have h3 : b.data.toList.length = b.size := by simp
    omega
theorem numZ_size (n : Int) : (numZ n).size ≤ 9 := by
  unfold numZ
  rw [Nib.bs_size]
  exact Rlp.num_length _
theorem flagB_size (b : Bool) : (flagB b).size ≤ 9 := numZ_size _
theorem dat_nil : (dat []).flatten.length = 0 := rfl
theorem dat_cons (x : ByteArray) (t : List ByteArray) : (dat (x :: t)).flatten.length = x.size + (dat t).flatten.length := by simp [dat]
theorem listB_size_le (xs : List ByteArray) : (listB xs).size ≤ 9 + (dat xs).flatten.length := by
  rw [listB_size]
  have := Rlp.head_length 192 (dat xs).flatten.length
  omega
theorem dat_le (xs : List ByteArray) (m : Nat) (h : ∀ x ∈ xs, x.size ≤ m) : (dat xs).flatten.length ≤ xs.length * m := by
  induction xs with
  | nil => simp
  | cons x t ih =>
    rw [dat_cons]
    have := ih (fun y hy => h y (by simp [hy]))
    have := h x (by simp)
    rw [List.length_cons, Nat.succ_mul]
    omega
theorem entB_dat (e : Ent) (h : smallE e = true) : (dat [textB e.k, textB e.v]).flatten.length ≤ 104 := by
  simp only [smallE, Bool.and_eq_true, decide_eq_true_eq] at h
  have h1 := textB_size e.k (by omega)
  have h2 := textB_size e.v (by omega)
  rw [dat_cons, dat_cons, dat_nil]
  omega
theorem chgB_dat (c : Chg) (h : smallC c = true) : (dat [textB c.k, textB c.v, flagB c.gone]).flatten.length ≤ 113 := by
  simp only [smallC, Bool.and_eq_true, decide_eq_true_eq] at h
  have h1 := textB_size c.k (by omega)
  have h2 := textB_size c.v (by omega)
  have h3 := flagB_size c.gone
  rw [dat_cons, dat_cons, dat_cons, dat_nil]
  omega
theorem entB_size (e : Ent) (h : smallE e = true) : (entB e).size ≤ 113 := by
  have := listB_size_le [textB e.k, textB e.v]
  have := entB_dat e h
  unfold entB
  omega
theorem chgB_size (c : Chg) (h : smallC c = true) : (chgB c).size ≤ 122 := by
  have := listB_size_le [textB c.k, textB c.v, flagB c.gone]
  have := chgB_dat c h
  unfold chgB
  omega
theorem ents_dat (l : List Ent) (h : l.all smallE = true) (hl : l.length ≤ 8) : (dat (l.map entB)).flatten.length ≤ 904 := by
  have := dat_le (l.map entB) 113 (fun x hx => by
    obtain ⟨e, he, rfl⟩ := List.mem_map.1 hx
    exact entB_size e (List.all_eq_true.1 h e he))
  rw [List.length_map] at this
  omega
theorem chgs_dat (l : List Chg) (h : l.all smallC = true) (hl : l.length ≤ 80) : (dat (l.map chgB)).flatten.length ≤ 9760 := by
  have := dat_le (l.map chgB) 122 (fun x hx => by
    obtain ⟨e, he, rfl⟩ := List.mem_map.1 hx
    exact chgB_size e (List.all_eq_true.1 h e he))
  rw [List.length_map] at this
  omega
theorem rdList_list (xs t : List ByteArray) (b : Bool) (h : (dat xs).flatten.length ≤ 1048576) (hi : ∀ x ∈ xs, Item x) : rdList ⟨listB xs :: t, b⟩ = (xs, ⟨t, b⟩) := by
  unfold rdList
  rw [next_cons, newR_list xs h hi]
  simp
theorem entR_ent (e : Ent) (h : smallE e = true) : entR (newR (entB e)) = (e, ⟨[], false⟩) := by
  have hd := entB_dat e h
  simp only [smallE, Bool.and_eq_true, decide_eq_true_eq] at h
  unfold entB
  rw [newR_list _ (by omega) (by
    intro x hx
    simp only [List.mem_cons, List.not_mem_nil, or_false] at hx
    rcases hx with rfl | rfl
    · exact textB_item _ (by omega)
    · exact textB_item _ (by omega))]
  unfold entR
  rw [rdText_text _ _ _ (by omega), rdText_text _ _ _ (by omega)]
theorem chgR_chg (c : Chg) (h : smallC c = true) : chgR (newR (chgB c)) = (c, ⟨[], false⟩) := by
  have hd := chgB_dat c h
  simp only [smallC, Bool.and_eq_true, decide_eq_true_eq] at h
  unfold chgB
  rw [newR_list _ (by omega) (by
    intro x hx
    simp only [List.mem_cons, List.not_mem_nil, or_false] at hx
    rcases hx with rfl | rfl | rfl
    · exact textB_item _ (by omega)
    · exact textB_item _ (by omega)
    · exact flagB_item _)]
  unfold chgR
  rw [rdText_text _ _ _ (by omega), rdText_text _ _ _ (by omega)]
  unfold flagB
  rw [rdNum_num _ _ _ (by split <;> decide) (by split <;> decide)]
  rcases c with ⟨a, b, g⟩
  cases g <;> rfl
theorem rdRows_ents (l : List Ent) (t : List ByteArray) (b : Bool) (h : l.all smallE = true) (hl : l.length ≤ 8) : rdRows entR ⟨listB (l.map entB) :: t, b⟩ = (l, ⟨t, b⟩) := by
  have hd := ents_dat l h hl
  have hi : ∀ x ∈ l.map entB, Item x := by
    intro x hx
    obtain ⟨e, he, rfl⟩ := List.mem_map.1 hx
    exact listB_item _ (by have := entB_dat e (List.all_eq_true.1 h e he); omega)
  unfold rdRows
  rw [rdList_list _ _ _ (by omega) hi]
  have e1 : (l.map entB).map (fun x => (entR (newR x)).1) = l := by
    rw [List.map_map]
    calc l.map _ = l.map id := List.map_congr_left (fun e he => by simp [entR_ent e (List.all_eq_true.1 h e he)])
      _ = l := List.map_id l
  have e2 : (l.map entB).any (fun x => (entR (newR x)).2.bad) = false := by
    rw [List.any_eq_false]
    intro x hx
    obtain ⟨e, he, rfl⟩ := List.mem_map.1 hx
    simp [entR_ent e (List.all_eq_true.1 h e he)]
  simp only [e1, e2, Bool.or_false]
theorem rdRows_chgs (l : List Chg) (t : List ByteArray) (b : Bool) (h : l.all smallC = true) (hl : l.length ≤ 80) : rdRows chgR ⟨listB (l.map chgB) :: t, b⟩ = (l, ⟨t, b⟩) := by
  have hd := chgs_dat l h hl
  have hi : ∀ x ∈ l.map chgB, Item x := by
    intro x hx
    obtain ⟨e, he, rfl⟩ := List.mem_map.1 hx
    exact listB_item _ (by have := chgB_dat e (List.all_eq_true.1 h e he); omega)
  unfold rdRows
  rw [rdList_list _ _ _ (by omega) hi]
  have e1 : (l.map chgB).map (fun x => (chgR (newR x)).1) = l := by
    rw [List.map_map]
    calc l.map _ = l.map id := List.map_congr_left (fun e he => by simp [chgR_chg e (List.all_eq_true.1 h e he)])
      _ = l := List.map_id l
  have e2 : (l.map chgB).any (fun x => (chgR (newR x)).2.bad) = false := by
    rw [List.any_eq_false]
    intro x hx
    obtain ⟨e, he, rfl⟩ := List.mem_map.1 hx
    simp [chgR_chg e (List.all_eq_true.1 h e he)]
  simp only [e1, e2, Bool.or_false]
/-! What may be. -/
structure FactsA (a : Ask) : Prop where
  k0 : 0 ≤ a.kind
  k1 : a.kind ≤ 9
  s0 : 0 ≤ a.session
  s1 : a.session ≤ 1048576
  q0 : 0 ≤ a.seq
  q1 : a.seq ≤ 1048576
  t0 : -1 ≤ a.at_
  t1 : a.at_ ≤ 1048576
  l0 : 0 ≤ a.limit
  l1 : a.limit ≤ 8
  x : a.key.size ≤ 6
  y : a.to_.size ≤ 6
theorem factsA {a : Ask} (h : validA a = true) : FactsA a := by
  unfold validA at h
  simp only [Bool.and_eq_true, wi_iff] at h
  obtain ⟨⟨⟨⟨⟨⟨h1, h2⟩, h3⟩, h4⟩, h5⟩, h6⟩, h7⟩ := h
  have a3 : 0 ≤ a.session ∧ a.session ≤ 1048576 := by
    split at h3
    · have := of_decide_eq_true h3; omega
    · rw [wi_iff] at h3; omega
  have a4 : -1 ≤ a.at_ ∧ a.at_ ≤ 1048576 := by
    split at h4
    · rw [wi_iff] at h4; exact h4
    · have := of_decide_eq_true h4; omega
  have a5 : a.key.size ≤ 6 := by
    split at h5
    · exact of_decide_eq_true h5
    · have := of_decide_eq_true h5; omega
  have a6 : a.to_.size ≤ 6 := by
    split at h6
    · exact of_decide_eq_true h6
    · have := of_decide_eq_true h6; omega
  have a7 : 0 ≤ a.limit ∧ a.limit ≤ 8 := by
    split at h7
    · rw [wi_iff] at h7; omega
    · have := of_decide_eq_true h7; omega
  exact ⟨h1.1, h1.2, a3.1, a3.2, by omega, h2.2, a4.1, a4.2, a7.1, a7.2, a5, a6⟩
structure FactsR (r : Rep) : Prop where
  s0 : 0 ≤ r.session
  s1 : r.session ≤ 1048576
  q0 : 0 ≤ r.seq
  q1 : r.seq ≤ 1048576
  e0 : 0 ≤ r.err
  e1 : r.err ≤ 12
  v0 : 0 ≤ r.version
  v1 : r.version ≤ 1048576
  t : r.root.size ≤ 32
  p : r.proof.size ≤ 65536
  l : r.entries.length ≤ 8
  a : r.entries.all smallE = true
theorem root_le {s : ByteArray} (h : rootOk s = true) : s.size ≤ 32 := by
  unfold rootOk at h
  simp only [Bool.or_eq_true, decide_eq_true_eq] at h
  omega
theorem factsR {r : Rep} (h : validR r = true) : FactsR r := by
  unfold validR at h
  simp only [Bool.and_eq_true, wi_iff, decide_eq_true_eq] at h
  obtain ⟨⟨⟨⟨⟨⟨⟨h1, h2⟩, h3⟩, h4⟩, h5⟩, h6⟩, h7⟩, h8⟩ := h
  exact ⟨h1.1, h1.2, h2.1, h2.2, h4.1, h4.2, h3.1, h3.2, root_le h5, h6, h7, h8⟩
structure FactsN (n : Ntc) : Prop where
  s0 : 0 ≤ n.session
  s1 : n.session ≤ 1048576
  e0 : 0 ≤ n.err
  e1 : n.err ≤ 11
  b0 : 0 ≤ n.block
  b1 : n.block ≤ 1048576
  t : n.root.size ≤ 32
  l : n.changes.length ≤ 80
  a : n.changes.all smallC = true
theorem factsN {n : Ntc} (h : validN n = true) : FactsN n := by
  unfold validN at h
  simp only [Bool.and_eq_true, Bool.or_eq_true, wi_iff, decide_eq_true_eq] at h
  obtain ⟨⟨⟨⟨⟨h1, h2⟩, h3⟩, h4⟩, h5⟩, h6⟩ := h
  exact ⟨h1.1, h1.2, by omega, by omega, h2.1, h2.2, root_le h4, h5, h6⟩
theorem itemsA_dat {a : Ask} (f : FactsA a) : (dat (itemsA a)).flatten.length ≤ 84 := by
  have h1 := textB_size a.key (by have := f.x; omega)
  have h2 := textB_size a.to_ (by have := f.y; omega)
  have h3 := f.x
  have h4 := f.y
  have := numZ_size 0
  have := numZ_size a.kind
  have := numZ_size a.session
  have := numZ_size a.seq
  have := numZ_size (a.at_ + 1)
  have := numZ_size a.limit
  simp only [itemsA, dat_cons, dat_nil]
  omega
theorem itemsR_dat {r : Rep} (f : FactsR r) : (dat (itemsR r)).flatten.length ≤ 70000 := by
  have h1 := textB_size r.root (by have := f.t; omega)
  have h2 := textB_size r.proof (by have := f.p; omega)
  have h3 := f.t
  have h4 := f.p
  have h5 := ents_dat r.entries f.a f.l
  have h6 := listB_size_le (r.entries.map entB)
  have := numZ_size 1
  have := numZ_size r.session
  have := numZ_size r.seq
  have := numZ_size r.err
  have := numZ_size r.version
  have := flagB_size r.more
  simp only [itemsR, dat_cons, dat_nil]
  omega
theorem itemsN_dat {n : Ntc} (f : FactsN n) : (dat (itemsN n)).flatten.length ≤ 12000 := by
  have h1 := textB_size n.root (by have := f.t; omega)
  have h3 := f.t
  have h5 := chgs_dat n.changes f.a f.l
  have h6 := listB_size_le (n.changes.map chgB)
  have := numZ_size 2
  have := numZ_size n.session
  have := numZ_size n.err
  have := numZ_size n.block
  simp only [itemsN, dat_cons, dat_nil]
  omega
theorem itemsA_item {a : Ask} (f : FactsA a) : ∀ x ∈ itemsA a, Item x := by
  intro x hx
  have h3 := f.x
  have h4 := f.y
  simp only [itemsA, List.mem_cons, List.not_mem_nil, or_false] at hx
  rcases hx with rfl | rfl | rfl | rfl | rfl | rfl | rfl | rfl
  all_goals first
    | exact numZ_item _
    | exact textB_item _ (by omega)
theorem itemsR_item {r : Rep} (f : FactsR r) : ∀ x ∈ itemsR r, Item x := by
  intro x hx
  have h3 := f.t
  have h4 := f.p
  have h5 := ents_dat r.entries f.a f.l
  simp only [itemsR, List.mem_cons, List.not_mem_nil, or_false] at hx
  rcases hx with rfl | rfl | rfl | rfl | rfl | rfl | rfl | rfl | rfl
  all_goals first
    | exact numZ_item _
    | exact flagB_item _
    | exact textB_item _ (by omega)
    | exact listB_item _ (by omega)
theorem itemsN_item {n : Ntc} (f : FactsN n) : ∀ x ∈ itemsN n, Item x := by
  intro x hx
  have h3 := f.t
  have h5 := chgs_dat n.changes f.a f.l
  simp only [itemsN, List.mem_cons, List.not_mem_nil, or_false] at hx
  rcases hx with rfl | rfl | rfl | rfl | rfl | rfl
  all_goals first
    | exact numZ_item _
    | exact textB_item _ (by omega)
    | exact listB_item _ (by omega)
/-! What is put is got again. -/
theorem getA_put {a : Ask} (h : validA a = true) : getA (putA a) = some a := by
  have f := factsA h
  have hn : newR (putA a) = ⟨itemsA a, false⟩ := newR_list _ (by have := itemsA_dat f; omega) (itemsA_item f)
  obtain ⟨k0, k1, s0, s1, q0, q1, t0, t1, l0, l1, hx, hy⟩ := f
  unfold getA read
  rw [hn]
  unfold itemsA askR
  simp only [rdNum_num 0 _ _ (by decide) (by decide), rdNum_num a.kind _ _ k0 (by omega), rdNum_num a.session _ _ s0 (by omega), rdNum_num a.seq _ _ q0 (by omega), rdNum_num (a.at_ + 1) _ _ (by omega) (by omega), rdText_text a.key _ _ (by omega), rdText_text a.to_ _ _ (by omega), rdNum_num a.limit _ _ l0 (by omega), ne_eq, not_true_eq_false, decide_false, Bool.or_false]
  have e : (⟨a.kind, a.session, a.seq, a.at_ + 1 - 1, a.key, a.to_, a.limit⟩ : Ask) = a := by
    have : a.at_ + 1 - 1 = a.at_ := by omega
    rw [this]
  rw [e, if_pos (by simp [h])]
theorem getR_put {r : Rep} (h : validR r = true) : getR (putR r) = some r := by
  have f := factsR h
  have hn : newR (putR r) = ⟨itemsR r, false⟩ := newR_list _ (by have := itemsR_dat f; omega) (itemsR_item f)
  obtain ⟨s0, s1, q0, q1, e0, e1, v0, v1, ht, hp, hl, ha⟩ := f
  unfold getR read
  rw [hn]
  unfold itemsR repR flagB
  simp only [rdNum_num 1 _ _ (by decide) (by decide), rdNum_num r.session _ _ s0 (by omega), rdNum_num r.seq _ _ q0 (by omega), rdNum_num r.err _ _ e0 (by omega), rdNum_num r.version _ _ v0 (by omega), rdText_text r.root _ _ (by omega), rdRows_ents r.entries _ _ ha hl, rdText_text r.proof _ _ (by omega), rdNum_num (if r.more = true then 1 else 0) _ _ (by split <;> decide) (by split <;> decide), ne_eq, not_true_eq_false, decide_false, Bool.or_false]
  have e : (⟨r.session, r.seq, r.err, r.version, r.root, r.entries, r.proof, decide ((if r.more = true then (1 : Int) else 0) = 1)⟩ : Rep) = r := by
    rcases r with ⟨_, _, _, _, _, _, _, m⟩
    cases m <;> rfl
  rw [e, if_pos (by simp [h])]
theorem getN_put {n : Ntc} (h : validN n = true) : getN (putN n) = some n := by
  have f := factsN h
  have hn : newR (putN n) = ⟨itemsN n, false⟩ := newR_list _ (by have := itemsN_dat f; omega) (itemsN_item f)
  obtain ⟨s0, s1, e0, e1, b0, b1, ht, hl, ha⟩ := f
  unfold getN read
  rw [hn]
  unfold itemsN ntcR
  simp only [rdNum_num 2 _ _ (by decide) (by decide), rdNum_num n.session _ _ s0 (by omega), rdNum_num n.err _ _ e0 (by omega), rdNum_num n.block _ _ b0 (by omega), rdText_text n.root _ _ (by omega), rdRows_chgs n.changes _ _ ha hl, ne_eq, not_true_eq_false, decide_false, Bool.or_false]
  rw [if_pos (by simp [h])]
/-! The laws, plainly. -/
theorem kindA {a : Ask} (h : validA a = true) : kindB (putA a) = 0 := by rw [kindB, getA_put h]; rfl
theorem kindR {r : Rep} (h : validR r = true) : kindB (putR r) = 1 := by
  have hA : getA (putR r) = none := by
    rcases hx : getA (putR r) with _ | x
    · rfl
    · have h1 := (getA_some hx).2.2.2; have h2 := (getR_some (getR_put h)).2.2.2; rw [h1] at h2; cases h2
  rw [kindB, hA, getR_put h]; rfl
theorem kindN {n : Ntc} (h : validN n = true) : kindB (putN n) = 2 := by
  have h2 := (getN_some (getN_put h)).2.2.2
  have hA : getA (putN n) = none := by
    rcases hx : getA (putN n) with _ | x
    · rfl
    · have h1 := (getA_some hx).2.2.2; rw [h1] at h2; cases h2
  have hR : getR (putN n) = none := by
    rcases hx : getR (putN n) with _ | x
    · rfl
    · have h1 := (getR_some hx).2.2.2; rw [h1] at h2; cases h2
  rw [kindB, hA, hR, getN_put h]; rfl
theorem putA_inj {a b : Ask} (ha : validA a = true) (hb : validA b = true) (h : putA a = putA b) : a = b := by
  have := getA_put ha
  rw [h, getA_put hb] at this
  exact (Option.some.inj this).symm
theorem putA_ne_putR {a : Ask} {r : Rep} (ha : validA a = true) (hr : validR r = true) : putA a ≠ putR r := by
  intro h
  have h1 := kindA ha
  rw [h, kindR hr] at h1
  cases h1
theorem putA_ne_putN {a : Ask} {n : Ntc} (ha : validA a = true) (hn : validN n = true) : putA a ≠ putN n := by
  intro h
  have h1 := kindA ha
  rw [h, kindN hn] at h1
  cases h1
theorem putR_ne_putN {r : Rep} {n : Ntc} (hr : validR r = true) (hn : validN n = true) : putR r ≠ putN n := by
  intro h
  have h1 := kindR hr
  rw [h, kindN hn] at h1
  cases h1
/-- Of any bytes there is one kind at most. -/
theorem one_kind (s : ByteArray) : (if (getA s).isSome then 1 else 0) + (if (getR s).isSome then 1 else 0) + (if (getN s).isSome then 1 else 0) = if kindB s < 0 then (0 : Int) else 1 := by
  unfold kindB
  rcases hA : getA s with _ | a
  · rcases hR : getR s with _ | r
    · rcases hN : getN s with _ | n <;> simp
    · rcases hN : getN s with _ | n
      · simp
      · have h1 := (getR_some hR).2.2.2; have h2 := (getN_some hN).2.2.2; rw [h1] at h2; cases h2
  · have h1 := (getA_some hA).2.2.2
    rcases hR : getR s with _ | r
    · rcases hN : getN s with _ | n
      · simp
      · have h2 := (getN_some hN).2.2.2; rw [h1] at h2; cases h2
    · have h2 := (getR_some hR).2.2.2; rw [h1] at h2; cases h2
theorem cut_kind {a : Ask} (h : validA a = true) (k : Nat) (hk : k < (putA a).size) : kindB ((putA a).extract 0 k) = -1 := by
  refine kind_none ?_
  have f := factsA h
  have h1 := first_listB (itemsA a) (by have := itemsA_dat f; omega)
  obtain ⟨e, he⟩ := Rlp.first_cut h1 (by rw [← listB_size]; simp) k (by simpa [putA] using hk)
  unfold wholeB
  rw [Lib.extract_data]
  simp only [List.drop_zero, Nat.sub_zero]
  rw [show (putA a).data.toList = (listB (itemsA a)).data.toList from rfl, he]
theorem more_kind {a : Ask} (h : validA a = true) (y : ByteArray) (hy : 0 < y.size) : kindB (putA a ++ y) = -1 := by
  refine kind_none ?_
  have f := factsA h
  have h1 := first_listB (itemsA a) (by have := itemsA_dat f; omega)
  unfold wholeB
  rw [Nib.data_append, show (putA a).data.toList = (listB (itemsA a)).data.toList from rfl, Rlp.first_append h1]
  simp only
  rw [if_neg]
  rw [← listB_size, ByteArray.size_append]
  show ¬ (putA a).size = _
  omega
theorem num_le4 (n : Int) (h : n ≤ 1048577) : (numZ n).size ≤ 4 := by
  unfold numZ
  rw [Nib.bs_size]
  have h1 : n.toNat ≤ 1048577 := by omega
  have h2 := Rlp.num_mono (n := n.toNat) (m := 1048577) (by decide) h1
  have h3 : (Rlp.num 1048577).length = 4 := by decide +kernel
  omega
theorem num_le1 (n : Int) (h : n ≤ 9) : (numZ n).size ≤ 1 := by
  unfold numZ
  rw [Nib.bs_size]
  have := Rlp.num_small ⟨n.toNat, by omega⟩
  simp only at this
  omega
theorem item_pos {x : ByteArray} (h : Item x) : 1 ≤ x.size := by
  obtain ⟨l, f, n, h1, h2⟩ := h
  have := (Rlp.first_ok h1).2
  omega
theorem text_le7 (b : ByteArray) (h : b.size ≤ 6) : (textB b).size ≤ 7 := by
  unfold textB
  rw [Nib.bs_size, Rlp.text_length _ (by simp; omega)]
  split
  · omega
  · simp; omega
theorem putA_size {a : Ask} (h : validA a = true) : 9 ≤ (putA a).size ∧ (putA a).size ≤ 32 := by
  have f := factsA h
  have hi := itemsA_item f
  obtain ⟨k0, k1, s0, s1, q0, q1, t0, t1, l0, l1, hx, hy⟩ := f
  have a0 := num_le1 0 (by decide)
  have a1 := num_le1 a.kind k1
  have a2 := num_le4 a.session (by omega)
  have a3 := num_le4 a.seq (by omega)
  have a4 := num_le4 (a.at_ + 1) (by omega)
  have a5 := text_le7 a.key hx
  have a6 := text_le7 a.to_ hy
  have a7 := num_le1 a.limit (by omega)
  have b0 := item_pos (numZ_item 0)
  have b1 := item_pos (numZ_item a.kind)
  have b2 := item_pos (numZ_item a.session)
  have b3 := item_pos (numZ_item a.seq)
  have b4 := item_pos (numZ_item (a.at_ + 1))
  have b5 := item_pos (textB_item a.key (by omega))
  have b6 := item_pos (textB_item a.to_ (by omega))
  have b7 := item_pos (numZ_item a.limit)
  have hd : (dat (itemsA a)).flatten.length ≤ 29 ∧ 8 ≤ (dat (itemsA a)).flatten.length := by
    simp only [itemsA, dat_cons, dat_nil]
    omega
  unfold putA
  rw [listB_size, Rlp.head_short 192 _ (by omega)]
  simp only [List.length_cons, List.length_nil]
  omega
end Go.Proofs.Frm
