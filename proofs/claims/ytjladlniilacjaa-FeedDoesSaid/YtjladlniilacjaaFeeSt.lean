/-
  Package feed: a table in memory.
-/
import Derived.Test.YtjladlniilacjaaFeePlain
import Derived.Lib.Hide
namespace Go.Proofs.Fee
set_option linter.unusedVariables false
set_option linter.unusedSimpArgs false
section
variable {α β : Type}
/-- The same keys, with other things. -/
def mapK (f : α → β) (ks : Keyz α) : Keyz β := ks.map (fun p => (p.1, f p.2))
theorem mapK_at (f : α → β) (ks : Keyz α) (s : Int) : atK (mapK f ks) s = (atK ks s).map f := by
  induction ks with
  | nil => rfl
  | cons p r ih =>
    unfold atK mapK at *
    rw [List.map_cons, List.find?_cons, List.find?_cons]
    by_cases e : p.1 = s
    · simp [e]
    · simp only [e, decide_false]
      exact ih
theorem mapK_put (f : α → β) (ks : Keyz α) (s : Int) (x : α) : mapK f (putK ks s x) = putK (mapK f ks) s (f x) := by
  induction ks with
  | nil => rfl
  | cons p r ih =>
    unfold mapK at *
    rw [List.map_cons]
    unfold putK
    simp only
    split
    · rw [List.map_cons, ih]
    · split <;> simp
theorem mapK_del (f : α → β) (ks : Keyz α) (s : Int) : mapK f (delK ks s) = delK (mapK f ks) s := by
  unfold mapK delK
  rw [List.filter_map]
  rfl
theorem mapK_keys (f : α → β) (ks : Keyz α) : (mapK f ks).map Prod.fst = ks.map Prod.fst := by
  unfold mapK
  rw [List.map_map]
  rfl
theorem mapK_up (f : α → β) (ks : Keyz α) : Up (mapK f ks) ↔ Up ks := by
  unfold mapK Up
  rw [List.pairwise_map]
theorem mapK_length (f : α → β) (ks : Keyz α) : (mapK f ks).length = ks.length := by simp [mapK]
end
end Go.Proofs.Fee
namespace Go.Proofs.Ytjladlniilacjaa
open Go.RowKit Go.Proofs.Fee
set_option linter.unusedVariables false
set_option linter.unusedSimpArgs false
/-- A row, and where it lies. -/
structure Rw where
  fol : Bool
  q : List (Ntc × Value)
  b : Nat
  v : Value
def Rw.row (x : Rw) : Row := ⟨x.fol, x.q.map Prod.fst⟩
def cellN (p : Ntc × Value) : List Value := [.int .i64 p.1.ses, .int .i64 p.1.err, .int .i64 p.1.block, .string p.1.root, p.2]
def flatN (l : List (Ntc × Value)) : List Value := l.flatMap cellN
def flatC (l : List Chg) : List Value := l.flatMap (fun c => [.string c.k, .string c.v, .bool c.gone])
theorem flatN_length (l : List (Ntc × Value)) : (flatN l).length = l.length * 5 := by
  unfold flatN
  induction l with
  | nil => rfl
  | cons a r ih => rw [List.flatMap_cons, List.length_append, ih]; simp [cellN]; omega
theorem flatC_length (l : List Chg) : (flatC l).length = l.length * 3 := by
  unfold flatC
  induction l with
  | nil => rfl
  | cons a r ih => rw [List.flatMap_cons, List.length_append, ih]; simp; omega
theorem flatN_append (a b : List (Ntc × Value)) : flatN (a ++ b) = flatN a ++ flatN b := by simp [flatN, List.flatMap_append]
/-- What changes a slice shows. -/
def Chs (w : World) (v : Value) (cs : List Chg) : Prop :=
  (v = .slice none 0 0 ∧ cs = []) ∨ ∃ g cap cur, v = .slice (some ⟨g, 0, none⟩) cs.length cap ∧ cs.length ≤ cap ∧ Blk w g 142 cur ∧ cur.toList.take (cs.length * 3) = flatC cs
theorem Chs.same {w w' : World} {v : Value} {cs : List Chg} (h : Chs w v cs) (k : ∀ g c, Blk w g 142 c → w'.heap[g]? = w.heap[g]?) : Chs w' v cs := by
  rcases h with h | ⟨g, cap, cur, h1, h2, h3, h4⟩
  · exact .inl h
  · exact .inr ⟨g, cap, cur, h1, h2, (k g cur h3).trans h3, h4⟩
theorem Chs.below {w w' : World} {v : Value} {cs : List Chg} (h : Chs w v cs) (k : Below w.heap.size w w') : Chs w' v cs := h.same (fun g c hg => k.block g hg.lt)
structure RwOk (B : Nat) (w : World) (x : Rw) : Prop where
  blk : Blk w x.b 130 #[.bool x.fol, x.v]
  row : w.ownsRow B 63 5 x.v x.q.length (flatN x.q)
  chs : ∀ y ∈ x.q, Chs w y.2 y.1.chs
  bB : B ≤ x.b
/-- A table, in memory. -/
structure Ft (B m mp : Nat) (room : Nat) (rs : Keyz Rw) (w : World) : Prop where
  blk : Blk w m 114 #[.int .i64 (room : Int), .map (some mp)]
  map : Mk w mp (mapK Rw.b rs)
  each : ∀ p ∈ rs, RwOk B w p.2
  apart : ∀ p ∈ rs, ∀ q ∈ rs, p.1 ≠ q.1 → p.2.b ≠ q.2.b ∧ ∀ k, p.2.v.ownBlock = some k → q.2.v.ownBlock ≠ some k
  mB : B ≤ m
  pB : B ≤ mp
/-- The blocks that are a table's own. -/
def OwnF (m mp : Nat) (rs : Keyz Rw) (k : Nat) : Prop := k = m ∨ k = mp ∨ ∃ p ∈ rs, k = p.2.b ∨ p.2.v.ownBlock = some k
theorem own_same {w w' : World} {base n size : Nat} {T : TypeId} {v : Value} {xs : List Value} (h : w.ownsRow base T size v n xs) (k : ∀ b, v.ownBlock = some b → w'.heap[b]? = w.heap[b]?) : w'.ownsRow base T size v n xs := by
  refine ⟨h.1, h.2.imp id ?_⟩
  rintro ⟨g, cap, cur, rfl, h2, h3, h4⟩
  exact ⟨g, cap, cur, rfl, h2, (k g rfl).trans h3, h4⟩
theorem RwOk.same {B : Nat} {w w' : World} {x : Rw} (h : RwOk B w x) (kb : w'.heap[x.b]? = w.heap[x.b]?) (kv : ∀ b, x.v.ownBlock = some b → w'.heap[b]? = w.heap[b]?) (kc : ∀ g c, Blk w g 142 c → w'.heap[g]? = w.heap[g]?) : RwOk B w' x :=
  ⟨kb.trans h.blk, own_same h.row kv, fun y hy => (h.chs y hy).same kc, h.bB⟩
section
variable {B m mp room : Nat} {rs rs' : Keyz Rw} {w w' w1 w2 : World} {t t' : Tbl}
theorem Ft.same (h : Ft B m mp room rs w) (k : ∀ k, OwnF m mp rs k → w'.heap[k]? = w.heap[k]?) (kc : ∀ g c, Blk w g 142 c → w'.heap[g]? = w.heap[g]?) : Ft B m mp room rs w' :=
  { blk := (k m (.inl rfl)).trans h.blk, map := h.map.same (k mp (.inr (.inl rfl))), each := fun p hp => (h.each p hp).same (k _ (.inr (.inr ⟨p, hp, .inl rfl⟩))) (fun b hb => k _ (.inr (.inr ⟨p, hp, .inr hb⟩))) kc, apart := h.apart, mB := h.mB, pB := h.pB }
theorem Ft.up (h : Ft B m mp room rs w) : Up rs := (mapK_up _ _).1 h.map.up
theorem Ft.own (h : Ft B m mp room rs w) : ∀ k, OwnF m mp rs k → B ≤ k ∧ k < w.heap.size := by
  rintro k (rfl | rfl | ⟨p, hp, rfl | hb⟩)
  · exact ⟨h.mB, h.blk.lt⟩
  · exact ⟨h.pB, h.map.lt⟩
  · exact ⟨(h.each p hp).bB, (h.each p hp).blk.lt⟩
  · exact (h.each p hp).row.lt k hb
/-- What type a row's block has. -/
theorem own_type {w : World} {base n size : Nat} {T : TypeId} {v : Value} {xs : List Value} (h : w.ownsRow base T size v n xs) {b : Nat} (hb : v.ownBlock = some b) : ∃ cur, Blk w b T cur := by
  rcases h.2 with ⟨rfl, _⟩ | ⟨g, cap, cur, rfl, h2, h3, h4⟩
  · cases hb
  · cases hb
    exact ⟨cur, h3⟩
theorem blk_type {w : World} {g : Nat} {T T' : TypeId} {c c' : Array Value} (h : Blk w g T c) (h' : Blk w g T' c') : T = T' := by
  have := h.symm.trans h'
  injection this with this
  injection this
/-- A change lies in none of a table's blocks. -/
theorem Ft.chg (h : Ft B m mp room rs w) {g : Nat} {c : Array Value} (hg : Blk w g 142 c) : ¬ OwnF m mp rs g := by
  rintro (rfl | rfl | ⟨p, hp, rfl | hb⟩)
  · exact absurd (blk_type hg h.blk) (by decide)
  · obtain ⟨es, clock, e⟩ := h.map.obj
    have := hg.symm.trans e
    injection this with this
    cases this
  · exact absurd (blk_type hg (h.each p hp).blk) (by decide)
  · obtain ⟨cur, hc⟩ := own_type (h.each p hp).row hb
    exact absurd (blk_type hg hc) (by decide)
theorem Ft.below (h : Ft B m mp room rs w) (k : Below w.heap.size w w') : Ft B m mp room rs w' := h.same (fun j hj => k.block j (h.own j hj).2) (fun g c hg => k.block g hg.lt)
theorem Ft.far {S : Nat → Prop} (h : Ft B m mp room rs w) (F : Far S w w') (hS : ∀ k, OwnF m mp rs k → ¬ S k) (hc : ∀ g c, Blk w g 142 c → ¬ S g) : Ft B m mp room rs w' :=
  h.same (fun k hk => F.block k (h.own k hk).2 (hS k hk)) (fun g c hg => F.block g hg.lt (hc g c hg))
/-- Kinds of blocks are apart. -/
theorem Ft.m_mp (h : Ft B m mp room rs w) : m ≠ mp := by
  rintro rfl
  obtain ⟨es, clock, e⟩ := h.map.obj
  have := h.blk.symm.trans e
  injection this with this
  cases this
theorem Ft.m_b (h : Ft B m mp room rs w) {p : Int × Rw} (hp : p ∈ rs) : m ≠ p.2.b := fun e => absurd (blk_type h.blk (e ▸ (h.each p hp).blk)) (by decide)
theorem Ft.m_v (h : Ft B m mp room rs w) {p : Int × Rw} (hp : p ∈ rs) : p.2.v.ownBlock ≠ some m := fun e => by
  obtain ⟨cur, hc⟩ := own_type (h.each p hp).row e
  exact absurd (blk_type h.blk hc) (by decide)
theorem Ft.b_v (h : Ft B m mp room rs w) {p q : Int × Rw} (hp : p ∈ rs) (hq : q ∈ rs) : q.2.v.ownBlock ≠ some p.2.b := fun e => by
  obtain ⟨cur, hc⟩ := own_type (h.each q hq).row e
  exact absurd (blk_type (h.each p hp).blk hc) (by decide)
theorem Ft.p_b (h : Ft B m mp room rs w) {p : Int × Rw} (hp : p ∈ rs) : mp ≠ p.2.b := fun e => by
  obtain ⟨es, clock, he⟩ := h.map.obj
  rw [e] at he
  have := (h.each p hp).blk.symm.trans he
  injection this with this
  cases this
theorem Ft.p_v (h : Ft B m mp room rs w) {p : Int × Rw} (hp : p ∈ rs) : p.2.v.ownBlock ≠ some mp := fun e => by
  obtain ⟨cur, hc⟩ := own_type (h.each p hp).row e
  obtain ⟨es, clock, he⟩ := h.map.obj
  have := hc.symm.trans he
  injection this with this
  cases this
/-- A table that the plain data tells. -/
structure Fd (B m mp : Nat) (t : Tbl) (rs : Keyz Rw) (w : World) : Prop where
  ft : Ft B m mp t.room rs w
  st : mapK Rw.row rs = t.rows
  ok : t.Ok
theorem Fd.below (h : Fd B m mp t rs w) (k : Below w.heap.size w w') : Fd B m mp t rs w' := ⟨h.ft.below k, h.st, h.ok⟩
theorem Fd.at_ (h : Fd B m mp t rs w) (s : Int) : atK t.rows s = (atK rs s).map Rw.row := by rw [← h.st, mapK_at]
/-- What a call leaves of a table. -/
def Fs (B m mp : Nat) (rs : Keyz Rw) (w : World) (t' : Tbl) (w' : World) : Prop :=
  ∃ rs', Fd B m mp t' rs' w' ∧ Far (OwnF m mp rs) w w' ∧ ∀ k, OwnF m mp rs' k → OwnF m mp rs k ∨ w.heap.size ≤ k
theorem far_of_belowF (k : Below w.heap.size w w') : Far (fun _ => False) w w' := ⟨k.os, k.tape, k.output, k.size, fun i hi _ => k.block i hi⟩
theorem Fs.same (h : Fd B m mp t rs w) (k : Below w.heap.size w w') : Fs B m mp rs w t w' := ⟨rs, h.below k, (far_of_belowF k).mono (fun _ _ e => e.elim), fun _ h => .inl h⟩
theorem Fs.then (h : Fs B m mp rs w t' w1) (k : Below w1.heap.size w1 w2) : Fs B m mp rs w t' w2 := by
  obtain ⟨rs', h1, h2, h3⟩ := h
  exact ⟨rs', h1.below k, h2.call k, h3⟩
theorem Fs.trans {t2 : Tbl} (h : Fs B m mp rs w t' w1) (k : ∀ rs', Fd B m mp t' rs' w1 → Fs B m mp rs' w1 t2 w2) : Fs B m mp rs w t2 w2 := by
  obtain ⟨rs', h1, h2, h3⟩ := h
  obtain ⟨rs2, k1, k2, k3⟩ := k rs' h1
  refine ⟨rs2, k1, h2.trans k2 (fun i hi e => (h3 i e).resolve_right (by omega)), fun k e => ?_⟩
  rcases k3 k e with e | e
  · exact h3 k e
  · have := h2.size; exact .inr (by omega)
/-- What is read of a session that has a row. -/
theorem Fd.hit (h : Fd B m mp t rs w) {s : Int} {x : Rw} (hx : atK rs s = some x) : (s, x) ∈ rs ∧ RwOk B w x ∧ t.row s = x.row ∧ (∀ k, x.v.ownBlock = some k → k ≠ m) := by
  have hm := atK_some hx
  refine ⟨hm, h.ft.each _ hm, ?_, fun k hk e => h.ft.m_v hm (by rw [hk, e])⟩
  unfold Tbl.row
  rw [h.at_, hx]
  rfl
theorem Fd.miss (h : Fd B m mp t rs w) {s : Int} (hx : atK rs s = none) : t.row s = r0 := by
  unfold Tbl.row
  rw [h.at_, hx]
  rfl
theorem Fd.look (h : Fd B m mp t rs w) (s : Int) (hs : wfI s) : (Instr.lookup 112 (.map (some mp)) (.int .i64 s) false).run Try.prog w = .ok (ptrV ((atK rs s).map Rw.b)) w := by
  have := h.ft.map.look s hs
  rw [mapK_at] at this
  exact this
theorem Fd.c1 (h : Fd B m mp t rs w) : w.cell? ⟨m, 1, none⟩ = some (.map (some mp)) := by rw [h.ft.blk.cell]; rfl
theorem Fd.c0 (h : Fd B m mp t rs w) : w.cell? ⟨m, 0, none⟩ = some (.int .i64 (t.room : Int)) := by rw [h.ft.blk.cell]; rfl
theorem RwOk.c0 {x : Rw} (h : RwOk B w x) : w.cell? ⟨x.b, 0, none⟩ = some (.bool x.fol) := by rw [h.blk.cell]; rfl
theorem RwOk.c1 {x : Rw} (h : RwOk B w x) : w.cell? ⟨x.b, 1, none⟩ = some x.v := by rw [h.blk.cell]; rfl
theorem RwOk.shape {x : Rw} (h : RwOk B w x) : ∃ A c, x.v = .slice A x.q.length c ∧ x.q.length ≤ c := by
  rcases h.row.2 with ⟨h1, h2⟩ | ⟨g, cap, cur, h1, _, _, h2, _⟩
  · exact ⟨none, 0, by rw [h1, h2], by omega⟩
  · exact ⟨_, cap, h1, h2⟩
set_option maxHeartbeats 1000000 in
theorem follows_any (h : Fd B m mp t rs w) (s : Int) (hs : wfI s) :
    Calls Try.prog 36 #[.pointer (some ⟨m, 0, none⟩), .int .i64 s] w fun e w' => e = .returned (.bool (t.fol s)) ∧ w = w' := by
  have c1 := h.c1
  have LK := h.look s hs
  cases hx : atK rs s with
  | none =>
    rw [hx] at LK
    have hf : t.fol s = false := by unfold Tbl.fol; rw [h.miss hx]; rfl
    rw [hf]
    unfold Option.map ptrV at LK
    simp only at LK
    clear h hx hf
    go_enter Try.func36, Try.ntmps36
    go_wp2_with fail
    go_ret
    exact ⟨rfl, rfl⟩
  | some x =>
    rw [hx] at LK
    obtain ⟨_, hr, hf, _⟩ := h.hit hx
    have hf2 : t.fol s = x.fol := by unfold Tbl.fol; rw [hf]; rfl
    have d0 := hr.c0
    rw [hf2]
    unfold Option.map ptrV at LK
    simp only at LK
    obtain ⟨xb, hxb⟩ : ∃ z, z = x.b := ⟨_, rfl⟩
    obtain ⟨xf, hxf⟩ : ∃ z, z = x.fol := ⟨_, rfl⟩
    rw [← hxb] at LK d0
    rw [← hxf] at d0 ⊢
    clear h hx hf hf2 hr hxb hxf
    go_enter Try.func36, Try.ntmps36
    go_wp2_with fail
    go_ret
    exact ⟨rfl, rfl⟩
set_option maxHeartbeats 1000000 in
theorem waiting_any (h : Fd B m mp t rs w) (s : Int) (hs : wfI s) :
    Calls Try.prog 37 #[.pointer (some ⟨m, 0, none⟩), .int .i64 s] w fun e w' => e = .returned (.int .i64 (t.wait s : Int)) ∧ w = w' := by
  have c1 := h.c1
  have LK := h.look s hs
  cases hx : atK rs s with
  | none =>
    rw [hx] at LK
    have hf : t.wait s = 0 := by unfold Tbl.wait; rw [h.miss hx]; rfl
    rw [hf]
    unfold Option.map ptrV at LK
    simp only at LK
    clear h hx hf
    go_enter Try.func37, Try.ntmps37
    go_wp2_with fail
    go_ret
    exact ⟨rfl, rfl⟩
  | some x =>
    rw [hx] at LK
    obtain ⟨_, hr, hf, _⟩ := h.hit hx
    have hf2 : t.wait s = x.q.length := by unfold Tbl.wait; rw [hf]; simp [Rw.row]
    have d1 := hr.c1
    obtain ⟨A, c, hv, _⟩ := hr.shape
    rw [hv] at d1
    rw [hf2]
    unfold Option.map ptrV at LK
    simp only at LK
    obtain ⟨xb, hxb⟩ : ∃ z, z = x.b := ⟨_, rfl⟩
    obtain ⟨n, hn⟩ : ∃ z, z = x.q.length := ⟨_, rfl⟩
    rw [← hxb] at LK d1
    rw [← hn] at d1 ⊢
    clear h hx hf hf2 hr hxb hn hv
    go_enter Try.func37, Try.ntmps37
    go_wp2_with fail
    go_ret
    exact ⟨rfl, rfl⟩
end
end Go.Proofs.Ytjladlniilacjaa
