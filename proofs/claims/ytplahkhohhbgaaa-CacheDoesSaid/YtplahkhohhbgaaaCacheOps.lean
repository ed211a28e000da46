/-
  Package cache: Forget, Offer.
-/
import Derived.Test.YtplahkhohhbgaaaCacheSt
namespace Go.Proofs.Ytplahkhohhbgaaa
open Go.RowKit Go.Proofs.Cch
set_option linter.unusedVariables false
set_option linter.unusedSimpArgs false
/-- Behind a call. -/
def Cm (w0 : World) (g sz : Nat) (v : Value) (m : Nat) (ts' : Things) (cs' : Counts) (ask' : Nat) (w w' : World) : Prop :=
  ∃ v', Cs w0 g sz v' m ts' cs' ask' w' ∧ Far (Ow g v m) w w' ∧ (v'.ownBlock = v.ownBlock ∨ ∀ i, v'.ownBlock = some i → w.heap.size ≤ i)
section
variable {w0 : World} {g sz : Nat} {v : Value} {m : Nat} {ts : Things} {cs : Counts} {ask : Nat} {w w' : World}
theorem Cs.same (h : Cs w0 g sz v m ts cs ask w) (k : Below w.heap.size w w') : Cm w0 g sz v m ts cs ask w w' :=
  ⟨v, h.below k, ⟨k.os, k.tape, k.output, k.size, fun i hi _ => k.block i hi⟩, .inl rfl⟩
theorem place_bd {ts : Things} {key : ByteArray} {k : Nat} (h : placeOf ts key = (k : Int)) : k < ts.length := by
  rcases placeOf_cases ts key with ⟨e, _⟩ | ⟨k', t, e, ht, _⟩
  · rw [h] at e; omega
  · rw [h] at e
    obtain rfl : k = k' := by omega
    exact (List.getElem?_eq_some_iff.1 ht).1
theorem keys_erase {ts : Things} (h : ∀ (j : Nat) (t : ByteArray × ByteArray), ts[j]? = some t → t.1.size ≤ maxLen) (k : Nat) : ∀ (j : Nat) (t : ByteArray × ByteArray), (ts.eraseIdx k)[j]? = some t → t.1.size ≤ maxLen := by
  intro j t ht
  rw [List.getElem?_eraseIdx] at ht
  split at ht <;> exact h _ t ht
set_option maxHeartbeats 1000000 in
theorem forget_any (key : ByteArray) (h : Cs w0 g sz v m ts cs ask w) :
    Calls Try.prog 22 #[.pointer (some ⟨g, 0, none⟩), .string key] w fun e w' => e = .returned (.bool (forgetF ts key).2) ∧ Cm w0 g sz v m (forgetF ts key).1 cs ask w w' := by
  obtain ⟨A, c, rfl, _, hT⟩ := h.row.th
  have hl : ts.length ≤ 1000 := by have := h.len; have := h.top; omega
  have FND := Lib.hid (find_any key h.blk hT hl)
  have H := Lib.hid h
  clear h hT
  unfold forgetF
  rcases placeOf_cases ts key with ⟨e, _⟩ | ⟨k, t, e, ht, hk, _⟩
  · rw [e, if_pos rfl]
    rw [e] at FND
    go_enter Try.func22, Try.ntmps22
    go_wp2_with (go_at_call 49; refine FND.out.mono ?_; rintro e w1 ⟨rfl, hb⟩; have HB := Lib.hid hb; clear hb)
    go_ret
    exact ⟨rfl, H.out.same HB.out⟩
  · have hlt := place_bd e
    rw [e, if_neg (by omega), Int.toNat_natCast]
    rw [e] at FND
    have wk : IntKind.i64.wrap ((k : Int) + 1) = (k : Int) + 1 := IntWalk.i64_in _ (by omega)
    have i1 : ¬ (k : Int) < 0 := by omega
    clear e
    go_enter Try.func22, Try.ntmps22
    go_wp2_with (go_at_call 49; refine FND.out.mono ?_; rintro e w1 ⟨rfl, hb⟩; have h1 := H.out.below hb; have c1 := h1.blk.cell 1; simp only [List.getElem?_toArray, List.getElem?_cons_succ, List.getElem?_cons_zero] at c1; have HB := Lib.hid hb; have DEL := Lib.hid (delete_any _ _ ts k hlt w1 h1.row hl); have H1 := Lib.hid h1; clear h1 hb)
    refine DEL.out.mono ?_
    rintro e w2 ⟨v2, rfl, hr2, ho2, F2⟩
    obtain ⟨A2, c2, hv2, _, _⟩ := hr2.th
    have b2 := H1.out.blk.far F2 H1.out.vg
    have c2' := b2.cell 1
    have f2 := b2.frozen 1
    simp only [List.getElem?_toArray, List.getElem?_cons_succ, List.getElem?_cons_zero] at c2'
    obtain ⟨l2, hl2⟩ : ∃ l2, l2 = (ts.eraseIdx k).length := ⟨_, rfl⟩
    rw [← hl2] at hv2
    have hlen : (ts.eraseIdx k).length ≤ sz := by
      have := H.out.len
      rw [List.length_eraseIdx_of_lt hlt]
      omega
    have T2 := Lib.hid (H1.out.turned hr2 F2 (.inl ho2) hlen (keys_erase H1.out.keys k))
    have FT := Lib.hid F2
    have HO := Lib.hid ho2
    subst hv2
    clear b2 hr2 ho2 F2 hl2 hlen
    go_wp2_with fail
    go_ret
    refine ⟨rfl, _, T2.out, ?_, .inl HO.out⟩
    exact ((Far.call (Far.refl (Ow g (.slice A ts.length c) m) w) HB.out).trans (FT.out.mono (S' := Ow g (.slice A ts.length c) m) (fun i _ h => .inr (.inl h))) (fun i _ h => h)).setCell (p := ⟨g, 1, none⟩) (fun _ => .inl rfl) _
end
section
variable {w0 : World} {g sz : Nat} {v : Value} {m : Nat} {ts : Things} {cs : Counts} {ask : Nat} {w w' : World}
theorem keys_cons {ts : Things} (h : ∀ (j : Nat) (t : ByteArray × ByteArray), ts[j]? = some t → t.1.size ≤ maxLen) (x : ByteArray × ByteArray) (hx : x.1.size ≤ maxLen) : ∀ (j : Nat) (t : ByteArray × ByteArray), (x :: ts)[j]? = some t → t.1.size ≤ maxLen := by
  intro j t ht
  rcases j with _ | j
  · simp at ht; subst ht; exact hx
  · exact h j t (by simpa using ht)
set_option maxRecDepth 100000 in
set_option maxHeartbeats 4000000 in
theorem offer_any (key value : ByteArray) (hkey : key.size ≤ maxLen) (h : Cs w0 g sz v m ts cs ask w) :
    Calls Try.prog 20 #[.pointer (some ⟨g, 0, none⟩), .string key, .string value] w fun e w' => e = .returned (.bool (offerF sz ts cs key value).2) ∧ Cm w0 g sz v m (offerF sz ts cs key value).1 cs ask w w' := by
  obtain ⟨A, c, rfl, _, hT⟩ := h.row.th
  have hl : ts.length ≤ 1000 := by have := h.len; have := h.top; omega
  have FND := Lib.hid (find_any key h.blk hT hl)
  have H := Lib.hid h
  clear h hT
  unfold offerF
  rcases placeOf_cases ts key with ⟨e, _⟩ | ⟨k, t, e, ht, hk, hno⟩
  · rw [e, if_pos rfl]
    rw [e] at FND
    by_cases hfull : ts.length = sz
    · subst hfull
      rcases hts : ts with _ | ⟨t0, tr⟩
      · subst hts
        simp only [List.length_nil, if_true, List.getElem?_nil]
        go_enter Try.func20, Try.ntmps20
        have w0m : IntKind.i64.wrap (-1) = -1 := by decide
        go_wp2_with (go_at_call 49; refine FND.out.mono ?_; rintro e w1 ⟨rfl, hb⟩; have h1 := H.out.below hb; have c0 := h1.blk.cell 0; have c1 := h1.blk.cell 1; simp only [List.getElem?_toArray, List.getElem?_cons_succ, List.getElem?_cons_zero, List.length_nil] at c0 c1; have HB := Lib.hid hb; have H1 := Lib.hid h1; clear h1 hb)
        go_quiet (fail)
        have H2 := Lib.hid (H1.out.drewN nq)
        have BB : Hid (Below w.heap.size w (w1.drewN nq)) := Lib.hid (below_drewN HB.out nq)
        generalize w1.drewN nq = W2 at *
        have c0' := H2.out.blk.cell 0
        simp only [List.getElem?_toArray, List.getElem?_cons_succ, List.getElem?_cons_zero, List.length_nil] at c0'
        clear c0 c1
        go_wp2_with fail
        go_quiet (fail)
        go_wp2_with fail
        go_ret
        exact ⟨rfl, H.out.same (below_drewN BB.out _)⟩
      · rw [← hts]
        obtain ⟨p, hp⟩ : ∃ p, ts.length = p + 1 := ⟨tr.length, by rw [hts]; rfl⟩
        clear hts
        have hlt : p < ts.length := by omega
        obtain ⟨⟨tk, tv⟩, ht⟩ : ∃ t, ts[p]? = some t := ⟨_, List.getElem?_eq_getElem hlt⟩
        rw [if_pos rfl, show ts.length - 1 = p by omega, ht]
        dsimp only
        have htk : tk.size ≤ maxLen := H.out.keys p _ ht
        have wm : IntKind.i64.wrap ((ts.length : Int) - 1) = (p : Int) := by rw [hp]; rw [IntKind.wrap_i64]; omega
        have wk : IntKind.i64.wrap ((p : Int) + 1) = (p : Int) + 1 := IntWalk.i64_in _ (by omega)
        have i2 : (0 : Int) ≤ (p : Int) := by omega
        have i1 : ¬ (p : Int) < 0 := by omega
        have hd : decide ((p : Int) < 0) = false := decide_eq_false i1
        have hpl : (p : Int) < (ts.length : Int) := by omega
        have HT := Lib.hid ht
        have HP := Lib.hid hp
        clear ht hp
        obtain ⟨a1, ha1⟩ : ∃ a, a = cntAt cs key := ⟨_, rfl⟩
        obtain ⟨a2, ha2⟩ : ∃ a, a = cntAt cs tk := ⟨_, rfl⟩
        rw [← ha1, ← ha2]
        have HA1 := Lib.hid ha1
        have HA2 := Lib.hid ha2
        clear ha1 ha2
        by_cases hcmp : a1 ≤ a2
        · rw [if_pos hcmp]
          have i3 : (a1 : Int) ≤ (a2 : Int) := by omega
          have hd3 : decide ((a1 : Int) ≤ (a2 : Int)) = true := decide_eq_true i3
          clear hcmp
          go_enter Try.func20, Try.ntmps20
          go_wp2_with (go_at_call 49; refine FND.out.mono ?_; rintro e w1 ⟨rfl, hb⟩; have h1 := H.out.below hb; have c0 := h1.blk.cell 0; have c1 := h1.blk.cell 1; simp only [List.getElem?_toArray, List.getElem?_cons_succ, List.getElem?_cons_zero] at c0 c1; have HB := Lib.hid hb; have H1 := Lib.hid h1; clear h1 hb)
          go_quiet (fail)
          have H2 := Lib.hid (H1.out.drewN nq)
          have FF1 : Hid (Far (Ow g (Value.slice A ts.length c) m) w (w1.drewN nq)) := Lib.hid ((Far.call (Far.refl (Ow g (Value.slice A ts.length c) m) w) HB.out).drewN nq)
          have BB : Hid (Below w.heap.size w (w1.drewN nq)) := Lib.hid (below_drewN HB.out nq)
          generalize w1.drewN nq = W1 at *
          clear c0 c1
          have c0 := H2.out.blk.cell 0
          have c1 := H2.out.blk.cell 1
          have c2 := H2.out.blk.cell 2
          simp only [List.getElem?_toArray, List.getElem?_cons_succ, List.getElem?_cons_zero] at c0 c1 c2
          have lk1 : ∀ N : Nat, (Instr.lookup 73 (.map (some m)) (.string key) false).run Try.prog (W1.drewN N) = .ok (.int .i64 (a1 : Int)) (W1.drewN N) := fun N => by rw [HA1.out]; exact (H2.out.drewN N).map.look key hkey
          have lk2 : ∀ N : Nat, (Instr.lookup 73 (.map (some m)) (.string tk) false).run Try.prog (W1.drewN N) = .ok (.int .i64 (a2 : Int)) (W1.drewN N) := fun N => by rw [HA2.out]; exact (H2.out.drewN N).map.look tk htk
          obtain ⟨A', c', hA, _, hTT⟩ := H2.out.row.th
          obtain ⟨b, o, hA2, _, d0, _⟩ := hTT.at_ p _ HT.out
          cases hA
          subst hA2
          clear hTT
          go_wp2_with fail
          go_quiet (fail)
          go_wp2_with fail
          go_ret
          exact ⟨rfl, H.out.same (below_drewN BB.out _)⟩
        · rw [if_neg hcmp]
          have i3 : ¬ (a1 : Int) ≤ (a2 : Int) := by omega
          have hd3 : decide ((a1 : Int) ≤ (a2 : Int)) = false := decide_eq_false i3
          clear hcmp
          obtain ⟨es, hes⟩ : ∃ es, es = ts.eraseIdx p := ⟨_, rfl⟩
          have HES := Lib.hid hes
          rw [← hes]
          clear hes
          go_enter Try.func20, Try.ntmps20
          go_wp2_with (go_at_call 49; refine FND.out.mono ?_; rintro e w1 ⟨rfl, hb⟩; have h1 := H.out.below hb; have c0 := h1.blk.cell 0; have c1 := h1.blk.cell 1; simp only [List.getElem?_toArray, List.getElem?_cons_succ, List.getElem?_cons_zero] at c0 c1; have HB := Lib.hid hb; have H1 := Lib.hid h1; clear h1 hb)
          go_quiet (fail)
          have H2 := Lib.hid (H1.out.drewN nq)
          have FF1 : Hid (Far (Ow g (Value.slice A ts.length c) m) w (w1.drewN nq)) := Lib.hid ((Far.call (Far.refl (Ow g (Value.slice A ts.length c) m) w) HB.out).drewN nq)
          have BB : Hid (Below w.heap.size w (w1.drewN nq)) := Lib.hid (below_drewN HB.out nq)
          generalize w1.drewN nq = W1 at *
          clear c0 c1
          have c0 := H2.out.blk.cell 0
          have c1 := H2.out.blk.cell 1
          have c2 := H2.out.blk.cell 2
          simp only [List.getElem?_toArray, List.getElem?_cons_succ, List.getElem?_cons_zero] at c0 c1 c2
          have lk1 : ∀ N : Nat, (Instr.lookup 73 (.map (some m)) (.string key) false).run Try.prog (W1.drewN N) = .ok (.int .i64 (a1 : Int)) (W1.drewN N) := fun N => by rw [HA1.out]; exact (H2.out.drewN N).map.look key hkey
          have lk2 : ∀ N : Nat, (Instr.lookup 73 (.map (some m)) (.string tk) false).run Try.prog (W1.drewN N) = .ok (.int .i64 (a2 : Int)) (W1.drewN N) := fun N => by rw [HA2.out]; exact (H2.out.drewN N).map.look tk htk
          obtain ⟨A', c', hA, _, hTT⟩ := H2.out.row.th
          obtain ⟨b, o, hA2, _, d0, _⟩ := hTT.at_ p _ HT.out
          cases hA
          subst hA2
          clear hTT
          go_wp2_with fail
          go_quiet (fail)
          have H5 := H2
          clear H2
          have H2 := Lib.hid (H5.out.drewN nq)
          have FF2 : Hid (Far (Ow g (Value.slice (some ⟨b, o, none⟩) ts.length c) m) w (W1.drewN nq)) := Lib.hid (FF1.out.drewN nq)
          generalize W1.drewN nq = W2 at *
          clear lk1 lk2 d0 c0 c1 c2
          have DEL := Lib.hid (delete_any _ _ ts p hlt W2 H2.out.row hl)
          have c2 := H2.out.blk.cell 1
          simp only [List.getElem?_toArray, List.getElem?_cons_succ, List.getElem?_cons_zero] at c2
          go_wp2_with fail
          refine DEL.out.mono ?_
          rintro e w4 ⟨v4, rfl, hr4, ho4, F4⟩
          obtain ⟨A4, c4, hv4, _, _⟩ := hr4.th
          have b4 := H2.out.blk.far F4 H2.out.vg
          have c4' := b4.cell 1
          have f4 := b4.frozen 1
          simp only [List.getElem?_toArray, List.getElem?_cons_succ, List.getElem?_cons_zero] at c4'
          have hes := HES.out
          have hel : es.length + 1 = ts.length := by rw [hes, List.length_eraseIdx_of_lt hlt]; omega
          rw [← hes] at hv4 hr4
          have T4 := Lib.hid (H2.out.turned hr4 F4 (.inl ho4) (by have := H2.out.len; omega) (by rw [hes]; exact keys_erase H2.out.keys p))
          have F4' : Hid (Far (Ow g (Value.slice (some ⟨b, o, none⟩) ts.length c) m) w (w4.setCell ⟨g, 1, none⟩ v4)) := Lib.hid ((FF2.out.trans (F4.mono (S' := Ow g (Value.slice (some ⟨b, o, none⟩) ts.length c) m) (fun i _ h => .inr (.inl h))) (fun i _ h => h)).setCell (p := ⟨g, 1, none⟩) (fun _ => .inl rfl) _)
          have HO4 := Lib.hid ho4
          have HEL := Lib.hid hel
          subst hv4
          clear b4 hr4 ho4 F4 hes hel c2
          go_wp2_with fail
          have H3 := T4
          have FF := F4'
          have hsz : (w4.setCell ⟨g, 1, none⟩ (Value.slice A4 es.length c4)).heap.size = w4.heap.size := by simp [World.setCell]
          generalize w4.setCell ⟨g, 1, none⟩ (Value.slice A4 es.length c4) = W3 at *
          rw [← hsz]
          clear c4' f4 T4 F4' hsz
          have h4 := H3.out.below ((Below.refl _ W3).alloc (Nat.le_refl _) (.cells #[.string key, .string value] 83))
          have hq4 := Blk.new W3 83 #[.string key, .string value]
          have hv4 : ∀ i, (Value.slice A4 es.length c4).ownBlock = some i → i < W3.heap.size := fun i hi => (H3.out.row.lt i hi).2
          have INS := Lib.hid (insert_any w0.heap.size (Value.slice A4 es.length c4) es (key, value) W3.heap.size _ h4.row h4.bl.2 hq4 (fun e => by have := hv4 _ e; omega) (by have := H3.out.len; have := H3.out.top; omega))
          have H4 := Lib.hid h4
          clear h4 hq4 hv4
          have c3 := H3.out.blk.cell 1
          simp only [List.getElem?_toArray, List.getElem?_cons_succ, List.getElem?_cons_zero] at c3
          have c3g : g ≠ W3.heap.size := by have := H3.out.blk.lt; omega
          refine INS.out.mono ?_
          rintro e w5 ⟨v5, rfl, hr5, F5, ho5⟩
          obtain ⟨A5, c5, hv5, _, _⟩ := hr5.th
          have b5 := H4.out.blk.far F5 H4.out.vg
          have c5' := b5.cell 1
          have f5 := b5.frozen 1
          simp only [List.getElem?_toArray, List.getElem?_cons_succ, List.getElem?_cons_zero] at c5'
          have T5 := Lib.hid (H4.out.turned hr5 F5 ho5 (by have := HEL.out; have := H.out.len; simp; omega) (keys_cons H4.out.keys _ hkey))
          have F6 : Hid (Far (Ow g (.slice (some ⟨b, o, none⟩) ts.length c) m) w w5) := Lib.hid (FF.out.alloc (.cells #[.string key, .string value] 83) |>.trans (F5.mono (S' := fun j => (Value.slice A4 es.length c4).ownBlock = some j) (fun i _ h => h)) (fun i hi h => .inr (.inl (by rw [← HO4.out]; exact h))))
          have O6 : Hid (v5.ownBlock = (Value.slice (some ⟨b, o, none⟩) ts.length c).ownBlock ∨ ∀ i, v5.ownBlock = some i → w.heap.size ≤ i) := Lib.hid (ho5.elim (fun o => .inl (o.trans HO4.out)) (fun o => .inr (fun i hi => by have h1 := o i hi; have h2 := FF.out.size; simp at h1; omega)))
          obtain ⟨l5, hl5⟩ : ∃ l5, l5 = ((key, value) :: es).length := ⟨_, rfl⟩
          rw [← hl5] at hv5
          subst hv5
          clear b5 hr5 ho5 F5 hl5
          go_wp2_with fail
          go_ret
          exact ⟨rfl, _, T5.out, F6.out.setCell (p := ⟨g, 1, none⟩) (fun _ => .inl rfl) _, O6.out⟩
    · rw [if_neg hfull]
      have i1 : ¬ (ts.length : Int) = (sz : Int) := by omega
      have i1' : ((ts.length : Int) == (sz : Int)) = false := by simpa using i1
      go_enter Try.func20, Try.ntmps20
      go_wp2_with (go_at_call 49; refine FND.out.mono ?_; rintro e w1 ⟨rfl, hb⟩; have h1 := H.out.below hb; have c0 := h1.blk.cell 0; have c1 := h1.blk.cell 1; simp only [List.getElem?_toArray, List.getElem?_cons_succ, List.getElem?_cons_zero] at c0 c1; have HB := Lib.hid hb; have H1 := Lib.hid h1; clear h1 hb)
      go_quiet (fail)
      have H3 := Lib.hid (H1.out.drewN nq)
      have FF : Hid (Far (Ow g (.slice A ts.length c) m) w (w1.drewN nq)) := Lib.hid ((Far.call (Far.refl (Ow g (.slice A ts.length c) m) w) HB.out).drewN nq)
      generalize w1.drewN nq = W3 at *
      clear c0 c1
      have h4 := H3.out.below ((Below.refl _ W3).alloc (Nat.le_refl _) (.cells #[.string key, .string value] 83))
      have hq4 := Blk.new W3 83 #[.string key, .string value]
      have hv4 : ∀ i, (Value.slice A ts.length c).ownBlock = some i → i < W3.heap.size := fun i hi => (H3.out.row.lt i hi).2
      have INS := Lib.hid (insert_any w0.heap.size (Value.slice A ts.length c) ts (key, value) W3.heap.size _ h4.row h4.bl.2 hq4 (fun e => by have := hv4 _ e; omega) (by have := H3.out.len; have := H3.out.top; omega))
      have H4 := Lib.hid h4
      clear h4 hq4 hv4
      have c3 := H3.out.blk.cell 1
      simp only [List.getElem?_toArray, List.getElem?_cons_succ, List.getElem?_cons_zero] at c3
      have c3g : g ≠ W3.heap.size := by have := H3.out.blk.lt; omega
      go_wp2_with (go_at_call 51; refine INS.out.mono ?_)
      rintro e w5 ⟨v5, rfl, hr5, F5, ho5⟩
      obtain ⟨A5, c5, hv5, _, _⟩ := hr5.th
      have b5 := H4.out.blk.far F5 H4.out.vg
      have c5' := b5.cell 1
      have f5 := b5.frozen 1
      simp only [List.getElem?_toArray, List.getElem?_cons_succ, List.getElem?_cons_zero] at c5'
      have T5 := Lib.hid (H4.out.turned hr5 F5 ho5 (by have := H.out.len; simp; omega) (keys_cons H4.out.keys _ hkey))
      have F6 : Hid (Far (Ow g (.slice A ts.length c) m) w w5) := Lib.hid (FF.out.alloc (.cells #[.string key, .string value] 83) |>.trans (F5.mono (S' := fun j => (Value.slice A ts.length c).ownBlock = some j) (fun i _ h => h)) (fun i hi h => .inr (.inl h)))
      have O6 : Hid (v5.ownBlock = (Value.slice A ts.length c).ownBlock ∨ ∀ i, v5.ownBlock = some i → w.heap.size ≤ i) := Lib.hid (ho5.elim (fun o => .inl o) (fun o => .inr (fun i hi => by have h1 := o i hi; have h2 := FF.out.size; simp at h1; omega)))
      obtain ⟨l5, hl5⟩ : ∃ l5, l5 = ((key, value) :: ts).length := ⟨_, rfl⟩
      rw [← hl5] at hv5
      subst hv5
      clear b5 hr5 ho5 F5 hl5
      go_wp2_with fail
      go_ret
      exact ⟨rfl, _, T5.out, F6.out.setCell (p := ⟨g, 1, none⟩) (fun _ => .inl rfl) _, O6.out⟩
  · have hlt := place_bd e
    clear ht hk hno
    rw [e, if_neg (by omega), Int.toNat_natCast]
    rw [e] at FND
    have wk : IntKind.i64.wrap ((k : Int) + 1) = (k : Int) + 1 := IntWalk.i64_in _ (by omega)
    have i1 : ¬ (k : Int) < 0 := by omega
    have i2 : (0 : Int) ≤ (k : Int) := by omega
    have hd : decide ((k : Int) < 0) = false := decide_eq_false i1
    clear e
    obtain ⟨es, hes⟩ : ∃ es, es = ts.eraseIdx k := ⟨_, rfl⟩
    have HES := Lib.hid hes
    rw [← hes]
    clear hes
    go_enter Try.func20, Try.ntmps20
    go_wp2_with (go_at_call 49; refine FND.out.mono ?_; rintro e w1 ⟨rfl, hb⟩; have h1 := H.out.below hb; have HB := Lib.hid hb; have H1 := Lib.hid h1; clear h1 hb)
    go_quiet (fail)
    have H2 := Lib.hid (H1.out.drewN nq)
    have FF2 : Hid (Far (Ow g (.slice A ts.length c) m) w (w1.drewN nq)) := Lib.hid ((Far.call (Far.refl (Ow g (.slice A ts.length c) m) w) HB.out).drewN nq)
    generalize w1.drewN nq = W2 at *
    have DEL := Lib.hid (delete_any _ _ ts k hlt W2 H2.out.row hl)
    have c2 := H2.out.blk.cell 1
    simp only [List.getElem?_toArray, List.getElem?_cons_succ, List.getElem?_cons_zero] at c2
    go_wp2_with fail
    refine DEL.out.mono ?_
    rintro e w4 ⟨v4, rfl, hr4, ho4, F4⟩
    obtain ⟨A4, c4, hv4, _, _⟩ := hr4.th
    have b4 := H2.out.blk.far F4 H2.out.vg
    have c4' := b4.cell 1
    have f4 := b4.frozen 1
    simp only [List.getElem?_toArray, List.getElem?_cons_succ, List.getElem?_cons_zero] at c4'
    have hes := HES.out
    have hel : es.length + 1 = ts.length := by rw [hes, List.length_eraseIdx_of_lt hlt]; omega
    rw [← hes] at hv4 hr4
    have T4 := Lib.hid (H2.out.turned hr4 F4 (.inl ho4) (by have := H2.out.len; omega) (by rw [hes]; exact keys_erase H2.out.keys k))
    have F4' : Hid (Far (Ow g (Value.slice A ts.length c) m) w (w4.setCell ⟨g, 1, none⟩ v4)) := Lib.hid ((FF2.out.trans (F4.mono (S' := Ow g (Value.slice A ts.length c) m) (fun i _ h => .inr (.inl h))) (fun i _ h => h)).setCell (p := ⟨g, 1, none⟩) (fun _ => .inl rfl) _)
    have HO4 := Lib.hid ho4
    have HEL := Lib.hid hel
    subst hv4
    clear b4 hr4 ho4 F4 hes hel c2
    go_wp2_with fail
    have H3 := T4
    have FF := F4'
    have hsz : (w4.setCell ⟨g, 1, none⟩ (Value.slice A4 es.length c4)).heap.size = w4.heap.size := by simp [World.setCell]
    generalize w4.setCell ⟨g, 1, none⟩ (Value.slice A4 es.length c4) = W3 at *
    rw [← hsz]
    clear c4' f4 T4 F4' hsz
    have h4 := H3.out.below ((Below.refl _ W3).alloc (Nat.le_refl _) (.cells #[.string key, .string value] 83))
    have hq4 := Blk.new W3 83 #[.string key, .string value]
    have hv4 : ∀ i, (Value.slice A4 es.length c4).ownBlock = some i → i < W3.heap.size := fun i hi => (H3.out.row.lt i hi).2
    have INS := Lib.hid (insert_any w0.heap.size (Value.slice A4 es.length c4) es (key, value) W3.heap.size _ h4.row h4.bl.2 hq4 (fun e => by have := hv4 _ e; omega) (by have := H3.out.len; have := H3.out.top; omega))
    have H4 := Lib.hid h4
    clear h4 hq4 hv4
    have c3 := H3.out.blk.cell 1
    simp only [List.getElem?_toArray, List.getElem?_cons_succ, List.getElem?_cons_zero] at c3
    have c3g : g ≠ W3.heap.size := by have := H3.out.blk.lt; omega
    refine INS.out.mono ?_
    rintro e w5 ⟨v5, rfl, hr5, F5, ho5⟩
    obtain ⟨A5, c5, hv5, _, _⟩ := hr5.th
    have b5 := H4.out.blk.far F5 H4.out.vg
    have c5' := b5.cell 1
    have f5 := b5.frozen 1
    simp only [List.getElem?_toArray, List.getElem?_cons_succ, List.getElem?_cons_zero] at c5'
    have T5 := Lib.hid (H4.out.turned hr5 F5 ho5 (by have := HEL.out; have := H.out.len; simp; omega) (keys_cons H4.out.keys _ hkey))
    have F6 : Hid (Far (Ow g (.slice A ts.length c) m) w w5) := Lib.hid (FF.out.alloc (.cells #[.string key, .string value] 83) |>.trans (F5.mono (S' := fun j => (Value.slice A4 es.length c4).ownBlock = some j) (fun i _ h => h)) (fun i hi h => .inr (.inl (by rw [← HO4.out]; exact h))))
    have O6 : Hid (v5.ownBlock = (Value.slice A ts.length c).ownBlock ∨ ∀ i, v5.ownBlock = some i → w.heap.size ≤ i) := Lib.hid (ho5.elim (fun o => .inl (o.trans HO4.out)) (fun o => .inr (fun i hi => by have h1 := o i hi; have h2 := FF.out.size; simp at h1; omega)))
    obtain ⟨l5, hl5⟩ : ∃ l5, l5 = ((key, value) :: es).length := ⟨_, rfl⟩
    rw [← hl5] at hv5
    subst hv5
    clear b5 hr5 ho5 F5 hl5
    go_wp2_with fail
    go_ret
    exact ⟨rfl, _, T5.out, F6.out.setCell (p := ⟨g, 1, none⟩) (fun _ => .inl rfl) _, O6.out⟩
end
end Go.Proofs.Ytplahkhohhbgaaa
