/-
  Package feed: plain data: notices, rows, tables, and what the calls make of them.
-/
import Derived.Test.YtjladlniilacjaaFeeMap
namespace Go.Proofs.Fee
set_option linter.unusedVariables false
set_option linter.unusedSimpArgs false
structure Chg where
  k : ByteArray
  v : ByteArray
  gone : Bool
deriving DecidableEq
structure Ntc where
  ses : Int
  err : Int
  block : Int
  root : ByteArray
  chs : List Chg
deriving DecidableEq
def e0 : ByteArray := ⟨#[]⟩
def n0 : Ntc := ⟨0, 0, 0, e0, []⟩
structure Row where
  fol : Bool
  q : List Ntc
def r0 : Row := ⟨false, []⟩
/-- A table: rows of sessions, rising. -/
structure Tbl where
  room : Nat
  rows : Keyz Row
def Tbl.row (t : Tbl) (s : Int) : Row := (atK t.rows s).getD r0
def Tbl.fol (t : Tbl) (s : Int) : Bool := (t.row s).fol
def Tbl.wait (t : Tbl) (s : Int) : Nat := (t.row s).q.length
def Tbl.put (t : Tbl) (s : Int) (r : Row) : Tbl := { t with rows := putK t.rows s r }
def Tbl.del (t : Tbl) (s : Int) : Tbl := { t with rows := delK t.rows s }
def Tbl.keys (t : Tbl) : List Int := t.rows.map Prod.fst
def folls (rows : Keyz Row) : Nat := (rows.filter (fun p => p.2.fol)).length
def Tbl.sub (t : Tbl) (s : Int) : Tbl × Bool :=
  if t.fol s = true ∨ folls t.rows = 4 then (t, false) else (t.put s ⟨true, (t.row s).q⟩, true)
def Row.bare (r : Row) : Bool := !r.fol && r.q.isEmpty
def Tbl.tidy (t : Tbl) (s : Int) : Tbl := if (t.row s).bare then t.del s else t
def Tbl.unsub (t : Tbl) (s : Int) : Tbl × Bool := if t.fol s = true then ((t.put s ⟨false, (t.row s).q⟩).tidy s, true) else (t, false)
def Tbl.pop (t : Tbl) (s : Int) : Tbl × Ntc × Bool :=
  match (t.row s).q with
  | n :: q => ((t.put s ⟨t.fol s, q⟩).tidy s, n, true)
  | [] => (t, n0, false)
def Tbl.forget (t : Tbl) (s : Int) : Tbl × Nat := (t.del s, t.wait s)
def lagN (s b : Int) : Ntc := ⟨s, 11, b, e0, []⟩
def pushRow (room : Nat) (n : Ntc) (s : Int) (r : Row) : Row :=
  if r.fol then if r.q.length < room then ⟨true, r.q ++ [{ n with ses := s }]⟩ else ⟨false, if r.q.length = room then r.q ++ [lagN s n.block] else r.q⟩ else r
def lagR (room : Nat) (s : Int) (r : Row) : List Int := if r.fol then if r.q.length < room then [] else [s] else []
def Tbl.pushAt (t : Tbl) (n : Ntc) (s : Int) : Tbl := t.put s (pushRow t.room n s (t.row s))
def Tbl.pushL (n : Ntc) : Tbl × List Int → List Int → Tbl × List Int
  | p, [] => p
  | p, s :: r => Tbl.pushL n (p.1.pushAt n s, p.2 ++ lagR p.1.room s (p.1.row s)) r
def Tbl.push (t : Tbl) (n : Ntc) : Tbl × List Int := Tbl.pushL n (t, []) t.keys
def news (room : Int) : Tbl := ⟨(min (max room 1) 4).toNat, []⟩
/-- What holds of a row. -/
def Row.Ok (room : Nat) (r : Row) : Prop := r.q.length ≤ room + 1
/-- What holds of a table. -/
structure Tbl.Ok (t : Tbl) : Prop where
  room : 1 ≤ t.room ∧ t.room ≤ 4
  up : Up t.rows
  wf : ∀ p ∈ t.rows, (Lit.int .i64 p.1).wf = true
  len : ∀ p ∈ t.rows, p.2.Ok t.room
  four : folls t.rows ≤ 4
theorem r0_ok (room : Nat) : r0.Ok room := Nat.zero_le _
theorem Tbl.Ok.row {t : Tbl} (h : t.Ok) (s : Int) : (t.row s).Ok t.room := by
  unfold Tbl.row
  cases e : atK t.rows s with
  | none => exact r0_ok _
  | some r => exact h.len _ (atK_some e)
theorem row_put {t : Tbl} (h : Up t.rows) (s u : Int) (r : Row) : (t.put s r).row u = if u = s then r else t.row u := by
  unfold Tbl.row Tbl.put
  simp only
  rw [atK_put h]
  split <;> rfl
theorem row_del {t : Tbl} (h : Up t.rows) (s u : Int) : (t.del s).row u = if u = s then r0 else t.row u := by
  unfold Tbl.row Tbl.del
  simp only
  rw [atK_del h]
  split <;> rfl
def bn (b : Bool) : Nat := if b then 1 else 0
theorem folls_cons (p : Int × Row) (r : Keyz Row) : folls (p :: r) = bn p.2.fol + folls r := by
  unfold folls bn
  rw [List.filter_cons]
  split <;> simp_all <;> omega
theorem folls_put {rows : Keyz Row} (h : Up rows) (s : Int) (x : Row) : folls (putK rows s x) + bn ((atK rows s).getD r0).fol = folls rows + bn x.fol := by
  induction rows with
  | nil => show folls [(s, x)] + 0 = folls [] + _; rw [folls_cons]; exact Nat.add_comm _ _
  | cons p r ih =>
    obtain ⟨h1, h2⟩ := List.pairwise_cons.1 h
    unfold putK
    by_cases hlt : p.1 < s
    · have e : atK (p :: r) s = atK r s := by unfold atK; rw [List.find?_cons]; simp [Int.ne_of_lt hlt]
      rw [if_pos hlt, folls_cons, folls_cons, e]
      have := ih h2
      omega
    · rw [if_neg hlt]
      by_cases he : p.1 = s
      · have e : atK (p :: r) s = some p.2 := by unfold atK; rw [List.find?_cons]; simp [he]
        rw [if_pos he, folls_cons, folls_cons, e]
        simp only [Option.getD_some]
        omega
      · have e : atK (p :: r) s = none := by
          refine atK_none ?_
          rw [Bool.eq_false_iff]
          intro h3
          obtain ⟨y, hy⟩ := hasK_iff.1 h3
          rcases List.mem_cons.1 hy with rfl | hy
          · exact he rfl
          · have := h1 _ hy; simp at this; omega
        rw [if_neg he, folls_cons, e]
        show _ + 0 = _
        simp only
        omega
theorem folls_del (rows : Keyz Row) (s : Int) : folls (delK rows s) ≤ folls rows := by
  unfold folls delK
  rw [List.filter_filter]
  refine List.Sublist.length_le ?_
  have : (rows.filter (fun p => p.2.fol && decide (¬ p.1 = s))) = ((rows.filter (fun p => p.2.fol)).filter (fun p => decide (¬ p.1 = s))) := by
    rw [List.filter_filter]
    congr 1
    funext p
    exact Bool.and_comm _ _
  rw [this]
  exact List.filter_sublist
theorem Tbl.Ok.del {t : Tbl} (h : t.Ok) (s : Int) : (t.del s).Ok :=
  ⟨h.room, delK_up h.up s, fun p hp => h.wf p (delK_mem.1 hp).1, fun p hp => h.len p (delK_mem.1 hp).1, Nat.le_trans (folls_del _ _) h.four⟩
theorem Tbl.Ok.put {t : Tbl} (h : t.Ok) (s : Int) (hs : (Lit.int .i64 s).wf = true) (r : Row) (hr : r.Ok t.room) (h4 : folls t.rows + bn r.fol ≤ 4 + bn (t.fol s)) : (t.put s r).Ok := by
  refine ⟨h.room, putK_up h.up s r, fun p hp => ?_, fun p hp => ?_, ?_⟩
  · rcases (putK_mem h.up).1 hp with rfl | ⟨hp, _⟩
    · exact hs
    · exact h.wf p hp
  · rcases (putK_mem h.up).1 hp with rfl | ⟨hp, _⟩
    · exact hr
    · exact h.len p hp
  · have := folls_put h.up s r
    unfold Tbl.fol Tbl.row at h4
    show folls (putK t.rows s r) ≤ 4
    omega
theorem bn_le (b : Bool) : bn b ≤ 1 := by cases b <;> simp [bn]
theorem Tbl.Ok.sub {t : Tbl} (h : t.Ok) (s : Int) (hs : (Lit.int .i64 s).wf = true) : (t.sub s).1.Ok := by
  unfold Tbl.sub
  split
  · exact h
  · next hn =>
    simp only [not_or] at hn
    have h4 := h.four
    exact h.put s hs _ (h.row s) (by show _ + bn true ≤ _; have := hn.2; simp only [bn, if_true]; omega)
theorem put_put {ks : Keyz Row} (h : Up ks) (s : Int) (x y : Row) : putK (putK ks s x) s y = putK ks s y := by
  induction ks with
  | nil => simp [putK]
  | cons p r ih =>
    obtain ⟨h1, h2⟩ := List.pairwise_cons.1 h
    by_cases hlt : p.1 < s
    · simp only [putK, if_pos hlt, ih h2]
    · by_cases he : p.1 = s
      · simp [putK, he]
      · simp [putK, if_neg hlt, if_neg he]
theorem Tbl.Ok.tidy {t : Tbl} (h : t.Ok) (s : Int) : (t.tidy s).Ok := by
  unfold Tbl.tidy
  split
  · exact h.del s
  · exact h
/-- A row that was put, and tidied. -/
theorem Tbl.Ok.tidied {t : Tbl} (h : t.Ok) (s : Int) (hs : (Lit.int .i64 s).wf = true) (r : Row) (hr : r.Ok t.room) (h4 : bn r.fol ≤ bn (t.fol s)) : ((t.put s r).tidy s).Ok := by
  have hf := h.four
  exact (h.put s hs r hr (by omega)).tidy s
theorem Tbl.Ok.unsub {t : Tbl} (h : t.Ok) (s : Int) (hs : (Lit.int .i64 s).wf = true) : (t.unsub s).1.Ok := by
  unfold Tbl.unsub
  split
  · exact h.tidied s hs _ (h.row s) (Nat.zero_le _)
  · exact h
theorem Tbl.Ok.pop {t : Tbl} (h : t.Ok) (s : Int) (hs : (Lit.int .i64 s).wf = true) : (t.pop s).1.Ok := by
  unfold Tbl.pop
  split
  · next n q e =>
    refine h.tidied s hs _ ?_ (Nat.le_refl _)
    have := h.row s
    unfold Row.Ok at this ⊢
    rw [e] at this
    simp at this ⊢
    omega
  · exact h
theorem pushRow_ok (room : Nat) (n : Ntc) (s : Int) (r : Row) (h : r.Ok room) : (pushRow room n s r).Ok room := by
  unfold pushRow Row.Ok at *
  split
  · split
    · simp; omega
    · simp only
      split
      · simp; omega
      · exact h
  · exact h
theorem pushRow_fol (room : Nat) (n : Ntc) (s : Int) (r : Row) : bn (pushRow room n s r).fol ≤ bn r.fol := by
  unfold pushRow
  split
  · next hf =>
    rw [hf]
    split
    · exact Nat.le_refl _
    · exact bn_le _
  · exact Nat.le_refl _
theorem pushRow_bare (room : Nat) (n : Ntc) (s : Int) (r : Row) (hr : 1 ≤ room) (h : r.bare = false) : (pushRow room n s r).bare = false := by
  unfold pushRow
  split
  · split
    · rfl
    · next hl =>
      simp only [Row.bare, Bool.not_false, Bool.true_and]
      split
      · simp
      · rw [Bool.eq_false_iff]
        intro e
        have : r.q = [] := by simpa using e
        rw [this] at hl
        simp at hl
        omega
  · exact h
theorem Tbl.Ok.pushAt {t : Tbl} (h : t.Ok) (n : Ntc) (s : Int) (hs : s ∈ t.keys) : (t.pushAt n s).Ok := by
  obtain ⟨p, hp, rfl⟩ := List.mem_map.1 hs
  have e : t.row p.1 = p.2 := by unfold Tbl.row; rw [atK_mem h.up.nodup (x := p.2) hp]; rfl
  have := pushRow_fol t.room n p.1 (t.row p.1)
  have h4 := h.four
  exact h.put p.1 (h.wf p hp) _ (pushRow_ok _ _ _ _ (h.row _)) (by unfold Tbl.fol; omega)
theorem putK_key {α : Type} {ks : Keyz α} (h : Up ks) (s : Int) (x : α) (hs : s ∈ ks.map Prod.fst) : (putK ks s x).map Prod.fst = ks.map Prod.fst := by
  induction ks with
  | nil => cases hs
  | cons p r ih =>
    obtain ⟨h1, h2⟩ := List.pairwise_cons.1 h
    unfold putK
    by_cases hlt : p.1 < s
    · rw [if_pos hlt, List.map_cons, List.map_cons, ih h2]
      rcases List.mem_cons.1 hs with rfl | hs
      · exact absurd hlt (Int.lt_irrefl _)
      · exact hs
    · rw [if_neg hlt]
      by_cases he : p.1 = s
      · rw [if_pos he, List.map_cons, List.map_cons, he]
      · rw [if_neg he]
        rcases List.mem_cons.1 hs with rfl | hs
        · exact absurd rfl he
        · obtain ⟨q, hq, e⟩ := List.mem_map.1 hs
          have := h1 q hq
          omega
theorem pushAt_keys {t : Tbl} (h : t.Ok) (n : Ntc) (s : Int) (hs : s ∈ t.keys) : (t.pushAt n s).keys = t.keys := putK_key h.up s _ hs
theorem pushL_snoc (n : Ntc) : ∀ (l : List Int) (p : Tbl × List Int) (s : Int), Tbl.pushL n p (l ++ [s]) = ((Tbl.pushL n p l).1.pushAt n s, (Tbl.pushL n p l).2 ++ lagR (Tbl.pushL n p l).1.room s ((Tbl.pushL n p l).1.row s))
  | [], p, s => rfl
  | x :: l, p, s => pushL_snoc n l _ s
theorem pushL_ok (n : Ntc) : ∀ (l : List Int) (p : Tbl × List Int), p.1.Ok → (∀ s ∈ l, s ∈ p.1.keys) → (Tbl.pushL n p l).1.Ok ∧ (Tbl.pushL n p l).1.keys = p.1.keys ∧ (Tbl.pushL n p l).1.room = p.1.room
  | [], p, h, _ => ⟨h, rfl, rfl⟩
  | x :: l, p, h, hl => by
    have hx := hl x (List.mem_cons_self ..)
    have hk := pushAt_keys h n x hx
    obtain ⟨h1, h2, h3⟩ := pushL_ok n l (p.1.pushAt n x, p.2 ++ lagR p.1.room x (p.1.row x)) (h.pushAt n x hx) (fun s hs => by rw [hk]; exact hl s (List.mem_cons_of_mem _ hs))
    exact ⟨h1, h2.trans hk, h3⟩
theorem pushL_len (n : Ntc) : ∀ (l : List Int) (p : Tbl × List Int), (Tbl.pushL n p l).2.length ≤ p.2.length + l.length
  | [], p => Nat.le_refl _
  | x :: l, p => by
    refine Nat.le_trans (pushL_len n l _) ?_
    have : (lagR p.1.room x (p.1.row x)).length ≤ 1 := by
      unfold lagR
      split
      · split <;> simp
      · simp
    simp
    omega
theorem Tbl.Ok.push {t : Tbl} (h : t.Ok) (n : Ntc) : (t.push n).1.Ok := (pushL_ok n t.keys (t, []) h (fun _ h => h)).1
theorem news_ok (room : Int) : (news room).Ok := by
  refine ⟨?_, List.Pairwise.nil, by simp [news], by simp [news], Nat.zero_le _⟩
  show 1 ≤ (min (max room 1) 4).toNat ∧ (min (max room 1) 4).toNat ≤ 4
  omega
/-- An act. -/
structure Deed where
  k : Int
  s : Int
  b : Int
  r : ByteArray
structure Tld where
  is : Bool
  n : Nat
  l : List Int
  x : Ntc
def pushN (a : Deed) : Ntc := ⟨77, 0, a.b, a.r, [⟨⟨#[107]⟩, a.r, false⟩]⟩
def Tbl.does (t : Tbl) (a : Deed) : Tbl × Tld :=
  if a.k = 0 then ((t.sub a.s).1, ⟨(t.sub a.s).2, 0, [], n0⟩)
  else if a.k = 1 then ((t.unsub a.s).1, ⟨(t.unsub a.s).2, 0, [], n0⟩)
  else if a.k = 2 then ((t.push (pushN a)).1, ⟨false, 0, (t.push (pushN a)).2, n0⟩)
  else if a.k = 3 then ((t.pop a.s).1, ⟨(t.pop a.s).2.2, 0, [], (t.pop a.s).2.1⟩)
  else ((t.forget a.s).1, ⟨false, (t.forget a.s).2, [], n0⟩)
theorem Tbl.Ok.does {t : Tbl} (h : t.Ok) (a : Deed) (hs : (Lit.int .i64 a.s).wf = true) : (t.does a).1.Ok := by
  unfold Tbl.does
  split
  · exact h.sub _ hs
  · split
    · exact h.unsub _ hs
    · split
      · exact h.push _
      · split
        · exact h.pop _ hs
        · exact h.del _
theorem putK_le {α : Type} {ks : Keyz α} (h : Up ks) (s : Int) (x : α) : (putK ks s x).length ≤ ks.length + 1 := by
  rw [putK_length h]
  split <;> omega
theorem delK_le {α : Type} (ks : Keyz α) (s : Int) : (delK ks s).length ≤ ks.length := by
  unfold delK
  exact List.length_filter_le _ _
theorem tidy_le (t : Tbl) (s : Int) : (t.tidy s).rows.length ≤ t.rows.length := by
  unfold Tbl.tidy
  split
  · exact delK_le _ _
  · exact Nat.le_refl _
theorem does_le {t : Tbl} (h : t.Ok) (a : Deed) : (t.does a).1.rows.length ≤ t.rows.length + 1 := by
  unfold Tbl.does
  split
  · unfold Tbl.sub
    split
    · exact Nat.le_succ _
    · exact putK_le h.up _ _
  · split
    · unfold Tbl.unsub
      split
      · exact Nat.le_trans (tidy_le _ _) (putK_le h.up _ _)
      · exact Nat.le_succ _
    · split
      · have := (pushL_ok (pushN a) t.keys (t, []) h (fun _ h => h)).2.1
        have h2 : (t.push (pushN a)).1.rows.length = t.rows.length := by
          have h3 := congrArg List.length this
          unfold Tbl.keys at h3
          rw [List.length_map, List.length_map] at h3
          exact h3
        show (t.push (pushN a)).1.rows.length ≤ _
        omega
      · split
        · unfold Tbl.pop
          split
          · exact Nat.le_trans (tidy_le _ _) (putK_le h.up _ _)
          · exact Nat.le_succ _
        · exact Nat.le_trans (delK_le _ _) (Nat.le_succ _)
end Go.Proofs.Fee
