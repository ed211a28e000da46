/-
  A cache, and the document's, side by side.
-/
import Derived.Test.YtplahkhohhbgaaaCacheRf7
namespace Go.Proofs.Ytplahkhohhbgaaa
open Go.RowKit Go.Proofs.Cch
set_option linter.unusedVariables false
set_option linter.unusedSimpArgs false
section
variable {w0 : World} {g sz : Nat} {v v' : Value} {m : Nat} {ts ts' : Things} {cs cs' : Counts} {ask ask' : Nat} {w w' : World} {G : Nat} {A A' C C' : Option Addr} {c c' d d' : Nat}
theorem Cs.off (h : Cs w0 g sz v m ts cs ask w) {S : Nat → Prop} (F : Far S w w') (hS : ∀ i, Ow g v m i → ¬ S i) (hb : ∀ i, S i → w0.heap.size ≤ i) : Cs w0 g sz v m ts cs ask w' :=
  { blk := h.blk.far F (hS g (.inl rfl)), row := own_far h.row F (fun i hi => hS i (.inr (.inl hi))), map := h.map.far F (hS m (.inr (.inr rfl))), gle := h.gle, mle := h.mle, gm := h.gm, vg := h.vg, vm := h.vm, bl := Far.bl h.bl F hb, len := h.len, top := h.top, keys := h.keys, cnt := h.cnt }
theorem Mp.is_map {m : Nat} (h : Mp w m cs) : ∃ es clock, w.heap[m]? = some (.map es clock) := by
  obtain ⟨D, ⟨es, clock, hb, _⟩, _⟩ := h
  exact ⟨es, clock, hb⟩
theorem Cs.oth (h : Cs w0 g sz v m ts cs ask w) {b : Nat} (hO : Oth w b) : ¬ Ow g v m b := by
  obtain ⟨us, T, fr, hc, h1, h2⟩ := hO
  rintro (rfl | hv | rfl)
  · have := h.blk
    unfold Blk at this
    rw [this] at hc
    cases hc
    exact h2 rfl
  · rcases h.row.2 with ⟨rfl, _⟩ | ⟨k, cap, cur, rfl, _, hg, _⟩
    · simp [Value.ownBlock] at hv
    · simp [Value.ownBlock] at hv
      subst hv
      rw [hg] at hc
      cases hc
      exact h1 rfl
  · obtain ⟨es, clock, hm⟩ := h.map.is_map
    rw [hm] at hc
    cases hc
theorem Rp.far {S : Nat → Prop} {l : List (Value × Value)} {u : Value} (h : Rp w u l) (F : Far S w w') (hS : ∀ b, Oth w b → ¬ S b) : Rp w' u l := by
  obtain ⟨A, c, rfl, hT, h2, h3⟩ := h
  refine ⟨A, c, rfl, ?_, h2, h3⟩
  rcases hT with hT | ⟨b, o, rfl, hbl, hc, us, T, fr, hus, hT⟩
  · exact .inl hT
  · have hk := F.block b hbl (hS b ⟨us, T, fr, hus, hT⟩)
    exact .inr ⟨b, o, rfl, Nat.lt_of_lt_of_le hbl F.size, fun j t ht => ⟨(World.cell?_of_block (a := ⟨b, _, none⟩) hk).trans (hc j t ht).1, (World.cell?_of_block (a := ⟨b, _, none⟩) hk).trans (hc j t ht).2⟩, us, T, fr, hk.trans hus, hT⟩
/-- Both, and the box that holds the document's. -/
structure Tw2 (w0 : World) (g sz : Nat) (v : Value) (m : Nat) (ts : Things) (cs : Counts) (ask G : Nat) (A : Option Addr) (c : Nat) (C : Option Addr) (d : Nat) (w : World) : Prop where
  cc : Cs w0 g sz v m ts cs ask w
  b : Blk w G 30 #[.int .i64 (sz : Int), .slice A ts.length c, .slice C cs.length d, .int .i64 (ask : Int)]
  gl : w0.heap.size ≤ G
  ra : Rp w (.slice A ts.length c) (pT ts)
  rc : Rp w (.slice C cs.length d) (pC cs)
theorem Tw2.below (h : Tw2 w0 g sz v m ts cs ask G A c C d w) (k : Below w.heap.size w w') : Tw2 w0 g sz v m ts cs ask G A c C d w' := ⟨h.cc.below k, h.b.below k, h.gl, h.ra.below k, h.rc.below k⟩
theorem Tw2.drewN (h : Tw2 w0 g sz v m ts cs ask G A c C d w) (n : Nat) : Tw2 w0 g sz v m ts cs ask G A c C d (w.drewN n) := h.below (below_drewN (Below.refl _ _) n)
theorem blk_oth {T : TypeId} {us : Array Value} {b : Nat} (h : Blk w b T us) (h1 : T ≠ 83 ∧ T ≠ 76) : Oth w b := ⟨us, T, _, h, h1⟩
/-- What a call of the cache leaves. -/
theorem Tw2.keep (h : Tw2 w0 g sz v m ts cs ask G A c C d w) (F : Far (Ow g v m) w w') :
    Blk w' G 30 #[.int .i64 (sz : Int), .slice A ts.length c, .slice C cs.length d, .int .i64 (ask : Int)] ∧ Rp w' (.slice A ts.length c) (pT ts) ∧ Rp w' (.slice C cs.length d) (pC cs) :=
  ⟨h.b.far F (h.cc.oth (blk_oth h.b (by decide))), h.ra.far F (fun b hb => h.cc.oth hb), h.rc.far F (fun b hb => h.cc.oth hb)⟩
/-- The box is set anew. -/
theorem tw2_store {a0 d0 : Int} {A0 A1 : Option Addr} {m0 c0 m1 c1 : Nat} (h : Cs w0 g sz v m ts cs ask w) (hb : Blk w G 30 #[.int .i64 a0, .slice A0 m0 c0, .slice A1 m1 c1, .int .i64 d0]) (hG : w0.heap.size ≤ G) (ra : Rp w (.slice A ts.length c) (pT ts)) (rc : Rp w (.slice C cs.length d) (pC cs)) :
    Tw2 w0 g sz v m ts cs ask G A c C d ((((w.setCell ⟨G, 0, none⟩ (.int .i64 (sz : Int))).setCell ⟨G, 1, none⟩ (.slice A ts.length c)).setCell ⟨G, 2, none⟩ (.slice C cs.length d)).setCell ⟨G, 3, none⟩ (.int .i64 (ask : Int))) ∧
    (∀ b t us, b ≠ G → Blk w b t us → Blk ((((w.setCell ⟨G, 0, none⟩ (.int .i64 (sz : Int))).setCell ⟨G, 1, none⟩ (.slice A ts.length c)).setCell ⟨G, 2, none⟩ (.slice C cs.length d)).setCell ⟨G, 3, none⟩ (.int .i64 (ask : Int))) b t us) := by
  obtain ⟨h1, h2, h3⟩ := end4 hb h.bl hG (.int .i64 (sz : Int)) (.slice A ts.length c) (.slice C cs.length d) (.int .i64 (ask : Int))
  have hno : ∀ (i : Nat) (s : ByteArray), (#[.int .i64 a0, .slice A0 m0 c0, .slice A1 m1 c1, .int .i64 d0] : Array Value)[i]? ≠ some (.string s) := by
    intro i s
    rcases i with _ | _ | _ | _ | i <;> simp
  have hoth := h.oth (blk_oth hb (by decide))
  refine ⟨⟨h.off h3 (fun i hi e => hoth (by rw [← e]; exact hi)) (fun i e => by rw [e]; exact hG), h1, hG, ra.past (str1_T _) hb hno h3, rc.past (str1_C _) hb hno h3⟩, fun b t us hne k => k.far h3 hne⟩
end
end Go.Proofs.Ytplahkhohhbgaaa
