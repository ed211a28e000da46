/-
  Package frame: api.Reply is read (written by makers/frmget.py).
-/
import Derived.Test.YtlbebdkockejcaaGreatDoorGaFrA
import Derived.Test.YtlbebdkockejcaaGreatDoorFrmAs
import Derived.Test.YtlbebdkockejcaaGreatDoorFrmPut
import Derived.Test.YtlbebdkockejcaaGreatDoorWalkG
import Derived.Test.YtlbebdkockejcaaGreatDoorFrmPut2
import Derived.Test.YtlbebdkockejcaaGreatDoorFrmRep
import Derived.Deep.Cut
import Derived.Deep.CutBlock
namespace Go.Proofs.YtlbebdkockejcaaGreatDoor
open Go.RowKit Go.Proofs.Frm Go.Proofs.Mdl
set_option linter.unusedVariables false
set_option linter.unusedSimpArgs false
set_option maxRecDepth 100000 in
set_option maxHeartbeats 4000000 in
theorem readR_a {s : ByteArray} {w : World} {kv : Int} {rk r2 : Rd} {y1 y2 y3 y4 : Int} {y5 : ByteArray} {l : List Ent} {y7 : ByteArray} {y8 : Bool} (hs : s.size ≤ 999999) (hl : Laid2 w) (hk : (kv, rk) = rdNum (newR s)) (hkv : ¬ kv = 1) (hx : (⟨y1, y2, y3, y4, y5, l, y7, y8⟩, r2) = repR ⟨rk.items, true⟩) (hi : 0 < r2.items.length) :
    Calls Tryz.prog 50 #[.string s, .int .i64 1, .func (.func 51) #[] #[], .func (.func 9) #[] #[]] w fun e w' => ∃ vl, e = .returned (.tuple #[.agg #[.int .i64 0, .int .i64 0, .int .i64 0, .int .i64 0, .string ⟨#[]⟩, vl, .string ⟨#[]⟩, .bool false], .int .i64 2]) ∧ w'.ownsRow w.heap.size 52 2 vl 0 [] ∧ Below w.heap.size w w' := by
  obtain ⟨w0, g, p, hw, e_g, e_p, hb0, bg, bp, hz⟩ := boxes2 w 27 27 #[.int .i64 0, .int .i64 0, .int .i64 0, .int .i64 0, .string ⟨#[]⟩, .slice none 0 0, .string ⟨#[]⟩, .bool false] #[.int .i64 0, .int .i64 0, .int .i64 0, .int .i64 0, .string ⟨#[]⟩, .slice none 0 0, .string ⟨#[]⟩, .bool false]
  have hl0 : Laid2 w0 := hl.on hb0 (Nat.le_refl _)
  have hgl := hl.lt
  have NR := Lib.hid (newReader_any s w0 hs hl0)
  have L0 := Lib.hid hl0
  have BG0 := Lib.hid bg
  have BP0 := Lib.hid bp
  have B0 := Lib.hid hb0
  have GZ : Hid (g < w0.heap.size ∧ p < w0.heap.size ∧ w.heap.size ≤ g ∧ w.heap.size ≤ p ∧ g ≠ p ∧ 0 < w0.heap.size) := Lib.hid (by omega)
  have HK := Lib.hid hk
  have HX := Lib.hid hx
  have HI := Lib.hid hi
  clear hs hl hl0 hgl hk hx hi bg bp hb0 hz
  have HKV := Lib.hid hkv
  have qk : (kv != 1) = true := by simp [hkv]
  go_enter Tryz.func50, Tryz.ntmps50
  go_upto_region 2 with (fail)
  rw [← hw, ← e_p, ← e_g]
  clear hw e_p e_g
  go_upto_region 3 with (go_at_call 65; refine NR.out.mono ?_; rintro e w1 ⟨b, v, u, rfl, hN⟩; have R1 := Lib.hid hN.rm; have N1 := Lib.hid hN; clear hN)
  have L1 := Lib.hid (L0.out.on N1.out.bel (Nat.le_refl _))
  have NB : Hid (b ≠ g ∧ b ≠ p ∧ 0 ≠ b ∧ w0.heap.size ≤ b ∧ w0.heap.size ≤ w1.heap.size ∧ b < w1.heap.size) := Lib.hid (by have h1 := GZ.out; have h2 := N1.out.ge; have h3 := N1.out.bel.size; have h4 := N1.out.blk.lt; omega)
  have B1 := Lib.hid (B0.out.trans (N1.out.bel.mono B0.out.size))
  have BG1 := Lib.hid (BG0.out.below N1.out.bel)
  have BP1 := Lib.hid (BP0.out.below N1.out.bel)
  have NU := Lib.hid (rdNum_any R1.out)
  simp only [← HK.out] at NU
  go_upto_region 5 with (first
    | (go_at_call 66; refine NU.out.mono ?_; rintro e w2 ⟨rfl, hr, hf⟩; have R2 := Lib.hid hr; have F2 := Lib.hid hf; clear hr hf)
    | (go_at_call 67; refine (fail_any R2.out _).mono ?_; rintro e w3 ⟨rfl, hr, hf⟩; have R3 := Lib.hid hr; have F3 := Lib.hid (F2.out.trans hf (fun _ _ e => e)); clear hr hf))
  have L3 := Lib.hid (L1.out.far F3.out NB.out.2.2.1)
  have EA := Lib.hid (repR_any R3.out F3.out.size L3.out NB.out.2.2.1)
  simp only [← HX.out] at EA
  go_upto_region 6 with (go_at_call 51; refine EA.out.mono ?_; rintro e w4 ⟨vl, rfl, hown, hr, hf⟩; obtain ⟨A, c, rfl⟩ := own_shape hown; unfold cellR; have R4 := Lib.hid hr; have F4 := Lib.hid (F3.out.trans hf (fun _ _ e => e)); have O4 := Lib.hid hown; have L4 := Lib.hid (L3.out.far hf NB.out.2.2.1); have S34 := Lib.hid hf.size; clear hr hf hown)
  obtain ⟨w5, q, hw5, hq, hb5, kq, hz5⟩ := box_new w4 27 #[.int .i64 y1, .int .i64 y2, .int .i64 y3, .int .i64 y4, .string y5, .slice A l.length c, .string y7, .bool y8]
  rw [← hw5, ← hq]
  have R5 := Lib.hid (R4.out.below hb5)
  have L5 := Lib.hid (L4.out.on hb5 (Nat.le_refl _))
  have F5 := Lib.hid (F4.out.call hb5)
  have BQ5 := Lib.hid kq
  have O5 := Lib.hid (own_below O4.out hb5)
  have GQ : Hid (g ≠ q ∧ p ≠ q ∧ b ≠ q ∧ w.heap.size ≤ q ∧ q < w5.heap.size ∧ 0 ≠ q) := Lib.hid (by have h1 := GZ.out; have h2 := NB.out; have h3 := F4.out.size; have h4 := B0.out.size; omega)
  clear hw5 hq hb5 kq hz5
  obtain ⟨v5, u5, hB5, ⟨A5, c5, rfl, -, -⟩, -, -, hE5, -⟩ := R5.out
  have d0 := hB5.cell 0
  have d1 := hB5.cell 1
  simp only [List.getElem?_toArray, List.getElem?_cons_succ, List.getElem?_cons_zero] at d0 d1
  have i0 : (0 : Int) < (r2.items.length : Int) := by have := HI.out; omega
  go_upto_region 8 with (go_at_call 67; refine (fail_any R5.out _).mono ?_; rintro e w6 ⟨rfl, hr, hf⟩; have R6 := Lib.hid hr; have F6 := Lib.hid (F5.out.trans hf (fun _ _ e => e)); have L6 := Lib.hid (L5.out.far hf NB.out.2.2.1); have BQ6 := Lib.hid (BQ5.out.far hf (fun e => GQ.out.2.2.1 e.symm)); have S56 := Lib.hid hf.size; clear hr hf)
  clear d0 d1 hB5 hE5
  obtain ⟨w7, m, hw7, hm, hb7, km, hz7⟩ := box_new w6 24 #[.int .i64 0]
  go_upto_region 9 with (fail)
  rw [← hw7, ← hm]
  have R7 := Lib.hid (R6.out.below hb7)
  have L7 := Lib.hid (L6.out.on hb7 (Nat.le_refl _))
  have F7 := Lib.hid (F6.out.call hb7)
  have BM7 := Lib.hid km
  have BQ7 := Lib.hid (BQ6.out.below hb7)
  have GM : Hid (g ≠ m ∧ p ≠ m ∧ b ≠ m ∧ q ≠ m ∧ w.heap.size ≤ m ∧ m < w7.heap.size ∧ 0 ≠ m) := Lib.hid (by have h1 := GZ.out; have h2 := NB.out; have h3 := F6.out.size; have h4 := B0.out.size; have h5 := BQ6.out.lt; omega)
  clear hw7 hm hb7 km hz7
  have BG7 := Lib.hid (BG1.out.far F7.out (fun e => NB.out.1 e.symm))
  have BP7 := Lib.hid (BP1.out.far F7.out (fun e => NB.out.2.1 e.symm))
  have B7 := Lib.hid (B1.out.trans (F7.out.below (B := w.heap.size) B1.out.size (fun i e => by rw [e]; exact Nat.le_trans B0.out.size NB.out.2.2.2.1)))
  obtain ⟨v7, u7, hB7, -, -, -, hE7, -⟩ := R7.out
  have d1 := hB7.cell 1
  simp only [List.getElem?_toArray, List.getElem?_cons_succ, List.getElem?_cons_zero] at d1
  obtain ⟨s7, rfl⟩ : ∃ s7 : ByteArray, u7 = .iface 121 (.agg #[.string s7, .int .i64 2]) := by
    rcases hE7 with ⟨h1, _⟩ | ⟨_, s7, h⟩
    · cases h1
    · exact ⟨s7, h⟩
  have AS := Lib.hid (as_frame_number s7 2 m (.int .i64 0) w7 L7.out (by rw [BM7.out.cell]; rfl) (BM7.out.frozen 0))
  go_upto_region 10 with (go_at_call 68; refine AS.out.mono ?_; rintro e w8 ⟨rfl, W, hg, rfl⟩; have GR := Lib.hid hg; clear hg)
  have BW := Lib.hid (Below.grownNone (Below.refl w7.heap.size w7) (Nat.le_refl _) GR.out)
  obtain ⟨w8, hw8⟩ : ∃ z, z = W.setCell ⟨m, 0, none⟩ (.int .i64 2) := ⟨_, rfl⟩
  rw [← hw8]
  have hf8 : Far (fun i => i = m) w7 w8 := by rw [hw8]; exact ((far_of_below BW.out).mono (fun _ _ e => e.elim)).trans (set_far _ _ _ _) (fun _ _ e => e)
  have BM8 : Hid (Blk w8 m 24 #[.int .i64 2]) := Lib.hid (by rw [hw8]; exact (BM7.out.below BW.out).set 0 _)
  have BP8 := Lib.hid (BP7.out.far hf8 GM.out.2.1)
  have BG8 := Lib.hid (BG7.out.far hf8 GM.out.1)
  have B8 := Lib.hid (B7.out.trans (hf8.below (B := w.heap.size) B7.out.size (fun i e => by rw [e]; exact GM.out.2.2.2.2.1)))
  clear hw8 hf8 d1 hB7 hE7 BW GR
  refine Segs.wp_region_last (fun WW => (Blk WW p 27 #[.int .i64 0, .int .i64 0, .int .i64 0, .int .i64 0, .string ⟨#[]⟩, .slice none 0 0, .string ⟨#[]⟩, .bool false] ∧ Blk WW m 24 #[.int .i64 2])) [(0, false), (1, false), (2, true), (3, true)] (by kernel_rfl) (by kernel_rfl) (by kernel_rfl) rfl (by kernel_rfl) (by exact ⟨BP8.out, BM8.out⟩) ?_
  have BP9 : Hid (Blk w8.drew p 27 #[.int .i64 0, .int .i64 0, .int .i64 0, .int .i64 0, .string ⟨#[]⟩, .slice none 0 0, .string ⟨#[]⟩, .bool false]) := Lib.hid (by exact BP8.out)
  have BG9 : Hid (Blk w8.drew g 27 #[.int .i64 0, .int .i64 0, .int .i64 0, .int .i64 0, .string ⟨#[]⟩, .slice none 0 0, .string ⟨#[]⟩, .bool false]) := Lib.hid (by exact BG8.out)
  have BM9 : Hid (Blk w8.drew m 24 #[.int .i64 2]) := Lib.hid (by exact BM8.out)
  have B9 := Lib.hid B8.out.drew
  generalize w8.drew = w9 at BP9 BG9 BM9 B9 ⊢
  refine Segs.WQ.val 0 rfl (some 41) (.agg #[.int .i64 0, .int .i64 0, .int .i64 0, .int .i64 0, .string ⟨#[]⟩, .slice none 0 0, .string ⟨#[]⟩, .bool false]) rfl (by kernel_rfl) (fun WW hG => Segs.run_row 27 (.tmp 10) rfl p (by kernel_rfl) 27 #[.int .i64 0, .int .i64 0, .int .i64 0, .int .i64 0, .string ⟨#[]⟩, .slice none 0 0, .string ⟨#[]⟩, .bool false] _ hG.1 Tryz.underlying27 rfl (by kernel_rfl)) ?_
  simp only [Act.put, List.setIfInBounds_toArray, List.set_cons_zero, List.set_cons_succ]
  refine Segs.WQ.val 1 rfl (some 42) (.int .i64 2) rfl (by kernel_rfl) (fun WW hG => Segs.run_cell 24 (.tmp 13) rfl m 0 (by kernel_rfl) _ (isAggEr _) (by rw [hG.2.cell]; rfl)) ?_
  simp only [Act.put, List.setIfInBounds_toArray, List.set_cons_zero, List.set_cons_succ]
  have hf10 : Far (fun i => i = g) w9 (w9.setRow g #[.int .i64 0, .int .i64 0, .int .i64 0, .int .i64 0, .string ⟨#[]⟩, .slice none 0 0, .string ⟨#[]⟩, .bool false]) := Far.setRow (S := fun i => i = g) (Far.refl _ w9) (fun _ => rfl) _
  refine Segs.WQ.askip 2 rfl (w9.setRow g #[.int .i64 0, .int .i64 0, .int .i64 0, .int .i64 0, .string ⟨#[]⟩, .slice none 0 0, .string ⟨#[]⟩, .bool false]) rfl rfl (Segs.run_storeRow rfl g #[.int .i64 0, .int .i64 0, .int .i64 0, .int .i64 0, .string ⟨#[]⟩, .slice none 0 0, .string ⟨#[]⟩, .bool false] (by kernel_rfl) (by kernel_rfl) 27 #[.int .i64 0, .int .i64 0, .int .i64 0, .int .i64 0, .string ⟨#[]⟩, .slice none 0 0, .string ⟨#[]⟩, .bool false] BG9.out (by kernel_rfl) rfl (by simp [Value.oneCell'])) (fun _ => ⟨BP9.out.far hf10 (fun e => GZ.out.2.2.2.2.1 e.symm), BM9.out.far hf10 (fun e => GM.out.1 e.symm)⟩) ?_
  refine Segs.WQ.aval 3 rfl (some 9) (.int .i64 2) (w9.setRow g #[.int .i64 0, .int .i64 0, .int .i64 0, .int .i64 0, .string ⟨#[]⟩, .slice none 0 0, .string ⟨#[]⟩, .bool false]) rfl rfl (by kernel_rfl) (fun _ => ⟨BP9.out.far hf10 (fun e => GZ.out.2.2.2.2.1 e.symm), BM9.out.far hf10 (fun e => GM.out.1 e.symm)⟩) ?_
  simp only [Act.put, List.setIfInBounds_toArray, List.set_cons_zero, List.set_cons_succ]
  refine Segs.WQ.fin ?_
  have B10 := B9.out.trans (hf10.below (B := w.heap.size) B9.out.size (fun i e => by rw [e]; exact GZ.out.2.2.1))
  have h5 : Blk (w9.setRow g #[.int .i64 0, .int .i64 0, .int .i64 0, .int .i64 0, .string ⟨#[]⟩, .slice none 0 0, .string ⟨#[]⟩, .bool false]) g 27 [(.int .i64 0 : Value), (.int .i64 0 : Value), (.int .i64 0 : Value), (.int .i64 0 : Value), (.string ⟨#[]⟩ : Value), (.slice none 0 0 : Value), (.string ⟨#[]⟩ : Value), (.bool false : Value)].toArray := heap_setRow _ _ _ _ _ _ BG9.out
  go_wp2_with fail
  refine bodyPost_ret (results_b2 rfl isAggR sizeR _ _ g rfl rfl h5 rfl) rfl ?_
  exact ⟨_, rfl, ⟨rfl, .inl ⟨rfl, rfl⟩⟩, B10⟩
set_option maxRecDepth 100000 in
set_option maxHeartbeats 4000000 in
theorem readR_b {s : ByteArray} {w : World} {kv : Int} {rk r2 : Rd} {y1 y2 y3 y4 : Int} {y5 : ByteArray} {l : List Ent} {y7 : ByteArray} {y8 : Bool} (hs : s.size ≤ 999999) (hl : Laid2 w) (hk : (kv, rk) = rdNum (newR s)) (hkv : ¬ kv = 1) (hx : (⟨y1, y2, y3, y4, y5, l, y7, y8⟩, r2) = repR ⟨rk.items, true⟩) (hi : r2.items = []) (hb : r2.bad = true) :
    Calls Tryz.prog 50 #[.string s, .int .i64 1, .func (.func 51) #[] #[], .func (.func 9) #[] #[]] w fun e w' => ∃ vl, e = .returned (.tuple #[.agg #[.int .i64 0, .int .i64 0, .int .i64 0, .int .i64 0, .string ⟨#[]⟩, vl, .string ⟨#[]⟩, .bool false], .int .i64 2]) ∧ w'.ownsRow w.heap.size 52 2 vl 0 [] ∧ Below w.heap.size w w' := by
  obtain ⟨w0, g, p, hw, e_g, e_p, hb0, bg, bp, hz⟩ := boxes2 w 27 27 #[.int .i64 0, .int .i64 0, .int .i64 0, .int .i64 0, .string ⟨#[]⟩, .slice none 0 0, .string ⟨#[]⟩, .bool false] #[.int .i64 0, .int .i64 0, .int .i64 0, .int .i64 0, .string ⟨#[]⟩, .slice none 0 0, .string ⟨#[]⟩, .bool false]
  have hl0 : Laid2 w0 := hl.on hb0 (Nat.le_refl _)
  have hgl := hl.lt
  have NR := Lib.hid (newReader_any s w0 hs hl0)
  have L0 := Lib.hid hl0
  have BG0 := Lib.hid bg
  have BP0 := Lib.hid bp
  have B0 := Lib.hid hb0
  have GZ : Hid (g < w0.heap.size ∧ p < w0.heap.size ∧ w.heap.size ≤ g ∧ w.heap.size ≤ p ∧ g ≠ p ∧ 0 < w0.heap.size) := Lib.hid (by omega)
  have HK := Lib.hid hk
  have HX := Lib.hid hx
  have HI := Lib.hid hi
  have HB := Lib.hid hb
  clear hs hl hl0 hgl hk hx hi bg bp hb0 hz hb
  have HKV := Lib.hid hkv
  have qk : (kv != 1) = true := by simp [hkv]
  go_enter Tryz.func50, Tryz.ntmps50
  go_upto_region 2 with (fail)
  rw [← hw, ← e_p, ← e_g]
  clear hw e_p e_g
  go_upto_region 3 with (go_at_call 65; refine NR.out.mono ?_; rintro e w1 ⟨b, v, u, rfl, hN⟩; have R1 := Lib.hid hN.rm; have N1 := Lib.hid hN; clear hN)
  have L1 := Lib.hid (L0.out.on N1.out.bel (Nat.le_refl _))
  have NB : Hid (b ≠ g ∧ b ≠ p ∧ 0 ≠ b ∧ w0.heap.size ≤ b ∧ w0.heap.size ≤ w1.heap.size ∧ b < w1.heap.size) := Lib.hid (by have h1 := GZ.out; have h2 := N1.out.ge; have h3 := N1.out.bel.size; have h4 := N1.out.blk.lt; omega)
  have B1 := Lib.hid (B0.out.trans (N1.out.bel.mono B0.out.size))
  have BG1 := Lib.hid (BG0.out.below N1.out.bel)
  have BP1 := Lib.hid (BP0.out.below N1.out.bel)
  have NU := Lib.hid (rdNum_any R1.out)
  simp only [← HK.out] at NU
  go_upto_region 5 with (first
    | (go_at_call 66; refine NU.out.mono ?_; rintro e w2 ⟨rfl, hr, hf⟩; have R2 := Lib.hid hr; have F2 := Lib.hid hf; clear hr hf)
    | (go_at_call 67; refine (fail_any R2.out _).mono ?_; rintro e w3 ⟨rfl, hr, hf⟩; have R3 := Lib.hid hr; have F3 := Lib.hid (F2.out.trans hf (fun _ _ e => e)); clear hr hf))
  have L3 := Lib.hid (L1.out.far F3.out NB.out.2.2.1)
  have EA := Lib.hid (repR_any R3.out F3.out.size L3.out NB.out.2.2.1)
  simp only [← HX.out] at EA
  go_upto_region 6 with (go_at_call 51; refine EA.out.mono ?_; rintro e w4 ⟨vl, rfl, hown, hr, hf⟩; obtain ⟨A, c, rfl⟩ := own_shape hown; unfold cellR; have R4 := Lib.hid hr; have F4 := Lib.hid (F3.out.trans hf (fun _ _ e => e)); have O4 := Lib.hid hown; have L4 := Lib.hid (L3.out.far hf NB.out.2.2.1); have S34 := Lib.hid hf.size; clear hr hf hown)
  obtain ⟨w5, q, hw5, hq, hb5, kq, hz5⟩ := box_new w4 27 #[.int .i64 y1, .int .i64 y2, .int .i64 y3, .int .i64 y4, .string y5, .slice A l.length c, .string y7, .bool y8]
  rw [← hw5, ← hq]
  have R5 := Lib.hid (R4.out.below hb5)
  have L5 := Lib.hid (L4.out.on hb5 (Nat.le_refl _))
  have F5 := Lib.hid (F4.out.call hb5)
  have BQ5 := Lib.hid kq
  have O5 := Lib.hid (own_below O4.out hb5)
  have GQ : Hid (g ≠ q ∧ p ≠ q ∧ b ≠ q ∧ w.heap.size ≤ q ∧ q < w5.heap.size ∧ 0 ≠ q) := Lib.hid (by have h1 := GZ.out; have h2 := NB.out; have h3 := F4.out.size; have h4 := B0.out.size; omega)
  clear hw5 hq hb5 kq hz5
  obtain ⟨v5, u5, hB5, ⟨A5, c5, rfl, -, -⟩, -, -, hE5, -⟩ := R5.out
  have d0 := hB5.cell 0
  have d1 := hB5.cell 1
  simp only [List.getElem?_toArray, List.getElem?_cons_succ, List.getElem?_cons_zero] at d0 d1
  rw [show r2.items.length = 0 from by rw [HI.out]; rfl] at d0
  go_upto_region 8 with (fail)
  clear d0 d1 hB5 hE5
  have R6 := R5
  have F6 := F5
  have L6 := L5
  have BQ6 := BQ5
  have O6 := O5
  obtain ⟨w7, m, hw7, hm, hb7, km, hz7⟩ := box_new w5 24 #[.int .i64 0]
  go_upto_region 9 with (fail)
  rw [← hw7, ← hm]
  have R7 := Lib.hid (R6.out.below hb7)
  have L7 := Lib.hid (L6.out.on hb7 (Nat.le_refl _))
  have F7 := Lib.hid (F6.out.call hb7)
  have BM7 := Lib.hid km
  have BQ7 := Lib.hid (BQ6.out.below hb7)
  have O7 := Lib.hid (own_below O6.out hb7)
  have GM : Hid (g ≠ m ∧ p ≠ m ∧ b ≠ m ∧ q ≠ m ∧ w.heap.size ≤ m ∧ m < w7.heap.size ∧ 0 ≠ m) := Lib.hid (by have h1 := GZ.out; have h2 := NB.out; have h3 := F6.out.size; have h4 := B0.out.size; have h5 := BQ6.out.lt; omega)
  clear hw7 hm hb7 km hz7
  have BG7 := Lib.hid (BG1.out.far F7.out (fun e => NB.out.1 e.symm))
  have BP7 := Lib.hid (BP1.out.far F7.out (fun e => NB.out.2.1 e.symm))
  have B7 := Lib.hid (B1.out.trans (F7.out.below (B := w.heap.size) B1.out.size (fun i e => by rw [e]; exact Nat.le_trans B0.out.size NB.out.2.2.2.1)))
  obtain ⟨v7, u7, hB7, -, -, -, hE7, -⟩ := R7.out
  have d1 := hB7.cell 1
  simp only [List.getElem?_toArray, List.getElem?_cons_succ, List.getElem?_cons_zero] at d1
  obtain ⟨s7, rfl⟩ : ∃ s7 : ByteArray, u7 = .iface 121 (.agg #[.string s7, .int .i64 2]) := by
    rcases hE7 with ⟨h1, _⟩ | ⟨_, s7, h⟩
    · rw [show _ = true from HB.out] at h1; cases h1
    · exact ⟨s7, h⟩
  have AS := Lib.hid (as_frame_number s7 2 m (.int .i64 0) w7 L7.out (by rw [BM7.out.cell]; rfl) (BM7.out.frozen 0))
  go_upto_region 10 with (go_at_call 68; refine AS.out.mono ?_; rintro e w8 ⟨rfl, W, hg, rfl⟩; have GR := Lib.hid hg; clear hg)
  have BW := Lib.hid (Below.grownNone (Below.refl w7.heap.size w7) (Nat.le_refl _) GR.out)
  obtain ⟨w8, hw8⟩ : ∃ z, z = W.setCell ⟨m, 0, none⟩ (.int .i64 2) := ⟨_, rfl⟩
  rw [← hw8]
  have hf8 : Far (fun i => i = m) w7 w8 := by rw [hw8]; exact ((far_of_below BW.out).mono (fun _ _ e => e.elim)).trans (set_far _ _ _ _) (fun _ _ e => e)
  have BM8 : Hid (Blk w8 m 24 #[.int .i64 2]) := Lib.hid (by rw [hw8]; exact (BM7.out.below BW.out).set 0 _)
  have BP8 := Lib.hid (BP7.out.far hf8 GM.out.2.1)
  have BG8 := Lib.hid (BG7.out.far hf8 GM.out.1)
  have B8 := Lib.hid (B7.out.trans (hf8.below (B := w.heap.size) B7.out.size (fun i e => by rw [e]; exact GM.out.2.2.2.2.1)))
  clear hw8 hf8 d1 hB7 hE7 BW GR
  refine Segs.wp_region_last (fun WW => (Blk WW p 27 #[.int .i64 0, .int .i64 0, .int .i64 0, .int .i64 0, .string ⟨#[]⟩, .slice none 0 0, .string ⟨#[]⟩, .bool false] ∧ Blk WW m 24 #[.int .i64 2])) [(0, false), (1, false), (2, true), (3, true)] (by kernel_rfl) (by kernel_rfl) (by kernel_rfl) rfl (by kernel_rfl) (by exact ⟨BP8.out, BM8.out⟩) ?_
  have BP9 : Hid (Blk w8.drew p 27 #[.int .i64 0, .int .i64 0, .int .i64 0, .int .i64 0, .string ⟨#[]⟩, .slice none 0 0, .string ⟨#[]⟩, .bool false]) := Lib.hid (by exact BP8.out)
  have BG9 : Hid (Blk w8.drew g 27 #[.int .i64 0, .int .i64 0, .int .i64 0, .int .i64 0, .string ⟨#[]⟩, .slice none 0 0, .string ⟨#[]⟩, .bool false]) := Lib.hid (by exact BG8.out)
  have BM9 : Hid (Blk w8.drew m 24 #[.int .i64 2]) := Lib.hid (by exact BM8.out)
  have B9 := Lib.hid B8.out.drew
  generalize w8.drew = w9 at BP9 BG9 BM9 B9 ⊢
  refine Segs.WQ.val 0 rfl (some 41) (.agg #[.int .i64 0, .int .i64 0, .int .i64 0, .int .i64 0, .string ⟨#[]⟩, .slice none 0 0, .string ⟨#[]⟩, .bool false]) rfl (by kernel_rfl) (fun WW hG => Segs.run_row 27 (.tmp 10) rfl p (by kernel_rfl) 27 #[.int .i64 0, .int .i64 0, .int .i64 0, .int .i64 0, .string ⟨#[]⟩, .slice none 0 0, .string ⟨#[]⟩, .bool false] _ hG.1 Tryz.underlying27 rfl (by kernel_rfl)) ?_
  simp only [Act.put, List.setIfInBounds_toArray, List.set_cons_zero, List.set_cons_succ]
  refine Segs.WQ.val 1 rfl (some 42) (.int .i64 2) rfl (by kernel_rfl) (fun WW hG => Segs.run_cell 24 (.tmp 13) rfl m 0 (by kernel_rfl) _ (isAggEr _) (by rw [hG.2.cell]; rfl)) ?_
  simp only [Act.put, List.setIfInBounds_toArray, List.set_cons_zero, List.set_cons_succ]
  have hf10 : Far (fun i => i = g) w9 (w9.setRow g #[.int .i64 0, .int .i64 0, .int .i64 0, .int .i64 0, .string ⟨#[]⟩, .slice none 0 0, .string ⟨#[]⟩, .bool false]) := Far.setRow (S := fun i => i = g) (Far.refl _ w9) (fun _ => rfl) _
  refine Segs.WQ.askip 2 rfl (w9.setRow g #[.int .i64 0, .int .i64 0, .int .i64 0, .int .i64 0, .string ⟨#[]⟩, .slice none 0 0, .string ⟨#[]⟩, .bool false]) rfl rfl (Segs.run_storeRow rfl g #[.int .i64 0, .int .i64 0, .int .i64 0, .int .i64 0, .string ⟨#[]⟩, .slice none 0 0, .string ⟨#[]⟩, .bool false] (by kernel_rfl) (by kernel_rfl) 27 #[.int .i64 0, .int .i64 0, .int .i64 0, .int .i64 0, .string ⟨#[]⟩, .slice none 0 0, .string ⟨#[]⟩, .bool false] BG9.out (by kernel_rfl) rfl (by simp [Value.oneCell'])) (fun _ => ⟨BP9.out.far hf10 (fun e => GZ.out.2.2.2.2.1 e.symm), BM9.out.far hf10 (fun e => GM.out.1 e.symm)⟩) ?_
  refine Segs.WQ.aval 3 rfl (some 9) (.int .i64 2) (w9.setRow g #[.int .i64 0, .int .i64 0, .int .i64 0, .int .i64 0, .string ⟨#[]⟩, .slice none 0 0, .string ⟨#[]⟩, .bool false]) rfl rfl (by kernel_rfl) (fun _ => ⟨BP9.out.far hf10 (fun e => GZ.out.2.2.2.2.1 e.symm), BM9.out.far hf10 (fun e => GM.out.1 e.symm)⟩) ?_
  simp only [Act.put, List.setIfInBounds_toArray, List.set_cons_zero, List.set_cons_succ]
  refine Segs.WQ.fin ?_
  have B10 := B9.out.trans (hf10.below (B := w.heap.size) B9.out.size (fun i e => by rw [e]; exact GZ.out.2.2.1))
  have h5 : Blk (w9.setRow g #[.int .i64 0, .int .i64 0, .int .i64 0, .int .i64 0, .string ⟨#[]⟩, .slice none 0 0, .string ⟨#[]⟩, .bool false]) g 27 [(.int .i64 0 : Value), (.int .i64 0 : Value), (.int .i64 0 : Value), (.int .i64 0 : Value), (.string ⟨#[]⟩ : Value), (.slice none 0 0 : Value), (.string ⟨#[]⟩ : Value), (.bool false : Value)].toArray := heap_setRow _ _ _ _ _ _ BG9.out
  go_wp2_with fail
  refine bodyPost_ret (results_b2 rfl isAggR sizeR _ _ g rfl rfl h5 rfl) rfl ?_
  exact ⟨_, rfl, ⟨rfl, .inl ⟨rfl, rfl⟩⟩, B10⟩
set_option maxRecDepth 100000 in
set_option maxHeartbeats 4000000 in
theorem readR_c {s : ByteArray} {w : World} {kv : Int} {rk r2 : Rd} {y1 y2 y3 y4 : Int} {y5 : ByteArray} {l : List Ent} {y7 : ByteArray} {y8 : Bool} (hs : s.size ≤ 999999) (hl : Laid2 w) (hk : (kv, rk) = rdNum (newR s)) (hkv : kv = 1) (hx : (⟨y1, y2, y3, y4, y5, l, y7, y8⟩, r2) = repR ⟨rk.items, rk.bad⟩) (hi : 0 < r2.items.length) :
    Calls Tryz.prog 50 #[.string s, .int .i64 1, .func (.func 51) #[] #[], .func (.func 9) #[] #[]] w fun e w' => ∃ vl, e = .returned (.tuple #[.agg #[.int .i64 0, .int .i64 0, .int .i64 0, .int .i64 0, .string ⟨#[]⟩, vl, .string ⟨#[]⟩, .bool false], .int .i64 2]) ∧ w'.ownsRow w.heap.size 52 2 vl 0 [] ∧ Below w.heap.size w w' := by
  obtain ⟨w0, g, p, hw, e_g, e_p, hb0, bg, bp, hz⟩ := boxes2 w 27 27 #[.int .i64 0, .int .i64 0, .int .i64 0, .int .i64 0, .string ⟨#[]⟩, .slice none 0 0, .string ⟨#[]⟩, .bool false] #[.int .i64 0, .int .i64 0, .int .i64 0, .int .i64 0, .string ⟨#[]⟩, .slice none 0 0, .string ⟨#[]⟩, .bool false]
  have hl0 : Laid2 w0 := hl.on hb0 (Nat.le_refl _)
  have hgl := hl.lt
  have NR := Lib.hid (newReader_any s w0 hs hl0)
  have L0 := Lib.hid hl0
  have BG0 := Lib.hid bg
  have BP0 := Lib.hid bp
  have B0 := Lib.hid hb0
  have GZ : Hid (g < w0.heap.size ∧ p < w0.heap.size ∧ w.heap.size ≤ g ∧ w.heap.size ≤ p ∧ g ≠ p ∧ 0 < w0.heap.size) := Lib.hid (by omega)
  have HK := Lib.hid hk
  have HX := Lib.hid hx
  have HI := Lib.hid hi
  clear hs hl hl0 hgl hk hx hi bg bp hb0 hz
  subst hkv
  go_enter Tryz.func50, Tryz.ntmps50
  go_upto_region 2 with (fail)
  rw [← hw, ← e_p, ← e_g]
  clear hw e_p e_g
  go_upto_region 3 with (go_at_call 65; refine NR.out.mono ?_; rintro e w1 ⟨b, v, u, rfl, hN⟩; have R1 := Lib.hid hN.rm; have N1 := Lib.hid hN; clear hN)
  have L1 := Lib.hid (L0.out.on N1.out.bel (Nat.le_refl _))
  have NB : Hid (b ≠ g ∧ b ≠ p ∧ 0 ≠ b ∧ w0.heap.size ≤ b ∧ w0.heap.size ≤ w1.heap.size ∧ b < w1.heap.size) := Lib.hid (by have h1 := GZ.out; have h2 := N1.out.ge; have h3 := N1.out.bel.size; have h4 := N1.out.blk.lt; omega)
  have B1 := Lib.hid (B0.out.trans (N1.out.bel.mono B0.out.size))
  have BG1 := Lib.hid (BG0.out.below N1.out.bel)
  have BP1 := Lib.hid (BP0.out.below N1.out.bel)
  have NU := Lib.hid (rdNum_any R1.out)
  simp only [← HK.out] at NU
  go_upto_region 5 with (first
    | (go_at_call 66; refine NU.out.mono ?_; rintro e w3 ⟨rfl, hr, hf⟩; have R3 := Lib.hid hr; have F3 := Lib.hid hf; clear hr hf))
  have L3 := Lib.hid (L1.out.far F3.out NB.out.2.2.1)
  have EA := Lib.hid (repR_any R3.out F3.out.size L3.out NB.out.2.2.1)
  rw [show (rk : Rd) = ⟨rk.items, rk.bad⟩ from rfl] at EA
  simp only [← HX.out] at EA
  go_upto_region 6 with (go_at_call 51; refine EA.out.mono ?_; rintro e w4 ⟨vl, rfl, hown, hr, hf⟩; obtain ⟨A, c, rfl⟩ := own_shape hown; unfold cellR; have R4 := Lib.hid hr; have F4 := Lib.hid (F3.out.trans hf (fun _ _ e => e)); have O4 := Lib.hid hown; have L4 := Lib.hid (L3.out.far hf NB.out.2.2.1); have S34 := Lib.hid hf.size; clear hr hf hown)
  obtain ⟨w5, q, hw5, hq, hb5, kq, hz5⟩ := box_new w4 27 #[.int .i64 y1, .int .i64 y2, .int .i64 y3, .int .i64 y4, .string y5, .slice A l.length c, .string y7, .bool y8]
  rw [← hw5, ← hq]
  have R5 := Lib.hid (R4.out.below hb5)
  have L5 := Lib.hid (L4.out.on hb5 (Nat.le_refl _))
  have F5 := Lib.hid (F4.out.call hb5)
  have BQ5 := Lib.hid kq
  have O5 := Lib.hid (own_below O4.out hb5)
  have GQ : Hid (g ≠ q ∧ p ≠ q ∧ b ≠ q ∧ w.heap.size ≤ q ∧ q < w5.heap.size ∧ 0 ≠ q) := Lib.hid (by have h1 := GZ.out; have h2 := NB.out; have h3 := F4.out.size; have h4 := B0.out.size; omega)
  clear hw5 hq hb5 kq hz5
  obtain ⟨v5, u5, hB5, ⟨A5, c5, rfl, -, -⟩, -, -, hE5, -⟩ := R5.out
  have d0 := hB5.cell 0
  have d1 := hB5.cell 1
  simp only [List.getElem?_toArray, List.getElem?_cons_succ, List.getElem?_cons_zero] at d0 d1
  have i0 : (0 : Int) < (r2.items.length : Int) := by have := HI.out; omega
  go_upto_region 8 with (go_at_call 67; refine (fail_any R5.out _).mono ?_; rintro e w6 ⟨rfl, hr, hf⟩; have R6 := Lib.hid hr; have F6 := Lib.hid (F5.out.trans hf (fun _ _ e => e)); have L6 := Lib.hid (L5.out.far hf NB.out.2.2.1); have BQ6 := Lib.hid (BQ5.out.far hf (fun e => GQ.out.2.2.1 e.symm)); have S56 := Lib.hid hf.size; clear hr hf)
  clear d0 d1 hB5 hE5
  obtain ⟨w7, m, hw7, hm, hb7, km, hz7⟩ := box_new w6 24 #[.int .i64 0]
  go_upto_region 9 with (fail)
  rw [← hw7, ← hm]
  have R7 := Lib.hid (R6.out.below hb7)
  have L7 := Lib.hid (L6.out.on hb7 (Nat.le_refl _))
  have F7 := Lib.hid (F6.out.call hb7)
  have BM7 := Lib.hid km
  have BQ7 := Lib.hid (BQ6.out.below hb7)
  have GM : Hid (g ≠ m ∧ p ≠ m ∧ b ≠ m ∧ q ≠ m ∧ w.heap.size ≤ m ∧ m < w7.heap.size ∧ 0 ≠ m) := Lib.hid (by have h1 := GZ.out; have h2 := NB.out; have h3 := F6.out.size; have h4 := B0.out.size; have h5 := BQ6.out.lt; omega)
  clear hw7 hm hb7 km hz7
  have BG7 := Lib.hid (BG1.out.far F7.out (fun e => NB.out.1 e.symm))
  have BP7 := Lib.hid (BP1.out.far F7.out (fun e => NB.out.2.1 e.symm))
  have B7 := Lib.hid (B1.out.trans (F7.out.below (B := w.heap.size) B1.out.size (fun i e => by rw [e]; exact Nat.le_trans B0.out.size NB.out.2.2.2.1)))
  obtain ⟨v7, u7, hB7, -, -, -, hE7, -⟩ := R7.out
  have d1 := hB7.cell 1
  simp only [List.getElem?_toArray, List.getElem?_cons_succ, List.getElem?_cons_zero] at d1
  obtain ⟨s7, rfl⟩ : ∃ s7 : ByteArray, u7 = .iface 121 (.agg #[.string s7, .int .i64 2]) := by
    rcases hE7 with ⟨h1, _⟩ | ⟨_, s7, h⟩
    · cases h1
    · exact ⟨s7, h⟩
  have AS := Lib.hid (as_frame_number s7 2 m (.int .i64 0) w7 L7.out (by rw [BM7.out.cell]; rfl) (BM7.out.frozen 0))
  go_upto_region 10 with (go_at_call 68; refine AS.out.mono ?_; rintro e w8 ⟨rfl, W, hg, rfl⟩; have GR := Lib.hid hg; clear hg)
  have BW := Lib.hid (Below.grownNone (Below.refl w7.heap.size w7) (Nat.le_refl _) GR.out)
  obtain ⟨w8, hw8⟩ : ∃ z, z = W.setCell ⟨m, 0, none⟩ (.int .i64 2) := ⟨_, rfl⟩
  rw [← hw8]
  have hf8 : Far (fun i => i = m) w7 w8 := by rw [hw8]; exact ((far_of_below BW.out).mono (fun _ _ e => e.elim)).trans (set_far _ _ _ _) (fun _ _ e => e)
  have BM8 : Hid (Blk w8 m 24 #[.int .i64 2]) := Lib.hid (by rw [hw8]; exact (BM7.out.below BW.out).set 0 _)
  have BP8 := Lib.hid (BP7.out.far hf8 GM.out.2.1)
  have BG8 := Lib.hid (BG7.out.far hf8 GM.out.1)
  have B8 := Lib.hid (B7.out.trans (hf8.below (B := w.heap.size) B7.out.size (fun i e => by rw [e]; exact GM.out.2.2.2.2.1)))
  clear hw8 hf8 d1 hB7 hE7 BW GR
  refine Segs.wp_region_last (fun WW => (Blk WW p 27 #[.int .i64 0, .int .i64 0, .int .i64 0, .int .i64 0, .string ⟨#[]⟩, .slice none 0 0, .string ⟨#[]⟩, .bool false] ∧ Blk WW m 24 #[.int .i64 2])) [(0, false), (1, false), (2, true), (3, true)] (by kernel_rfl) (by kernel_rfl) (by kernel_rfl) rfl (by kernel_rfl) (by exact ⟨BP8.out, BM8.out⟩) ?_
  have BP9 : Hid (Blk w8.drew p 27 #[.int .i64 0, .int .i64 0, .int .i64 0, .int .i64 0, .string ⟨#[]⟩, .slice none 0 0, .string ⟨#[]⟩, .bool false]) := Lib.hid (by exact BP8.out)
  have BG9 : Hid (Blk w8.drew g 27 #[.int .i64 0, .int .i64 0, .int .i64 0, .int .i64 0, .string ⟨#[]⟩, .slice none 0 0, .string ⟨#[]⟩, .bool false]) := Lib.hid (by exact BG8.out)
  have BM9 : Hid (Blk w8.drew m 24 #[.int .i64 2]) := Lib.hid (by exact BM8.out)
  have B9 := Lib.hid B8.out.drew
  generalize w8.drew = w9 at BP9 BG9 BM9 B9 ⊢
  refine Segs.WQ.val 0 rfl (some 41) (.agg #[.int .i64 0, .int .i64 0, .int .i64 0, .int .i64 0, .string ⟨#[]⟩, .slice none 0 0, .string ⟨#[]⟩, .bool false]) rfl (by kernel_rfl) (fun WW hG => Segs.run_row 27 (.tmp 10) rfl p (by kernel_rfl) 27 #[.int .i64 0, .int .i64 0, .int .i64 0, .int .i64 0, .string ⟨#[]⟩, .slice none 0 0, .string ⟨#[]⟩, .bool false] _ hG.1 Tryz.underlying27 rfl (by kernel_rfl)) ?_
  simp only [Act.put, List.setIfInBounds_toArray, List.set_cons_zero, List.set_cons_succ]
  refine Segs.WQ.val 1 rfl (some 42) (.int .i64 2) rfl (by kernel_rfl) (fun WW hG => Segs.run_cell 24 (.tmp 13) rfl m 0 (by kernel_rfl) _ (isAggEr _) (by rw [hG.2.cell]; rfl)) ?_
  simp only [Act.put, List.setIfInBounds_toArray, List.set_cons_zero, List.set_cons_succ]
  have hf10 : Far (fun i => i = g) w9 (w9.setRow g #[.int .i64 0, .int .i64 0, .int .i64 0, .int .i64 0, .string ⟨#[]⟩, .slice none 0 0, .string ⟨#[]⟩, .bool false]) := Far.setRow (S := fun i => i = g) (Far.refl _ w9) (fun _ => rfl) _
  refine Segs.WQ.askip 2 rfl (w9.setRow g #[.int .i64 0, .int .i64 0, .int .i64 0, .int .i64 0, .string ⟨#[]⟩, .slice none 0 0, .string ⟨#[]⟩, .bool false]) rfl rfl (Segs.run_storeRow rfl g #[.int .i64 0, .int .i64 0, .int .i64 0, .int .i64 0, .string ⟨#[]⟩, .slice none 0 0, .string ⟨#[]⟩, .bool false] (by kernel_rfl) (by kernel_rfl) 27 #[.int .i64 0, .int .i64 0, .int .i64 0, .int .i64 0, .string ⟨#[]⟩, .slice none 0 0, .string ⟨#[]⟩, .bool false] BG9.out (by kernel_rfl) rfl (by simp [Value.oneCell'])) (fun _ => ⟨BP9.out.far hf10 (fun e => GZ.out.2.2.2.2.1 e.symm), BM9.out.far hf10 (fun e => GM.out.1 e.symm)⟩) ?_
  refine Segs.WQ.aval 3 rfl (some 9) (.int .i64 2) (w9.setRow g #[.int .i64 0, .int .i64 0, .int .i64 0, .int .i64 0, .string ⟨#[]⟩, .slice none 0 0, .string ⟨#[]⟩, .bool false]) rfl rfl (by kernel_rfl) (fun _ => ⟨BP9.out.far hf10 (fun e => GZ.out.2.2.2.2.1 e.symm), BM9.out.far hf10 (fun e => GM.out.1 e.symm)⟩) ?_
  simp only [Act.put, List.setIfInBounds_toArray, List.set_cons_zero, List.set_cons_succ]
  refine Segs.WQ.fin ?_
  have B10 := B9.out.trans (hf10.below (B := w.heap.size) B9.out.size (fun i e => by rw [e]; exact GZ.out.2.2.1))
  have h5 : Blk (w9.setRow g #[.int .i64 0, .int .i64 0, .int .i64 0, .int .i64 0, .string ⟨#[]⟩, .slice none 0 0, .string ⟨#[]⟩, .bool false]) g 27 [(.int .i64 0 : Value), (.int .i64 0 : Value), (.int .i64 0 : Value), (.int .i64 0 : Value), (.string ⟨#[]⟩ : Value), (.slice none 0 0 : Value), (.string ⟨#[]⟩ : Value), (.bool false : Value)].toArray := heap_setRow _ _ _ _ _ _ BG9.out
  go_wp2_with fail
  refine bodyPost_ret (results_b2 rfl isAggR sizeR _ _ g rfl rfl h5 rfl) rfl ?_
  exact ⟨_, rfl, ⟨rfl, .inl ⟨rfl, rfl⟩⟩, B10⟩
set_option maxRecDepth 100000 in
set_option maxHeartbeats 4000000 in
theorem readR_d {s : ByteArray} {w : World} {kv : Int} {rk r2 : Rd} {y1 y2 y3 y4 : Int} {y5 : ByteArray} {l : List Ent} {y7 : ByteArray} {y8 : Bool} (hs : s.size ≤ 999999) (hl : Laid2 w) (hk : (kv, rk) = rdNum (newR s)) (hkv : kv = 1) (hx : (⟨y1, y2, y3, y4, y5, l, y7, y8⟩, r2) = repR ⟨rk.items, rk.bad⟩) (hi : r2.items = []) (hb : r2.bad = true) :
    Calls Tryz.prog 50 #[.string s, .int .i64 1, .func (.func 51) #[] #[], .func (.func 9) #[] #[]] w fun e w' => ∃ vl, e = .returned (.tuple #[.agg #[.int .i64 0, .int .i64 0, .int .i64 0, .int .i64 0, .string ⟨#[]⟩, vl, .string ⟨#[]⟩, .bool false], .int .i64 2]) ∧ w'.ownsRow w.heap.size 52 2 vl 0 [] ∧ Below w.heap.size w w' := by
  obtain ⟨w0, g, p, hw, e_g, e_p, hb0, bg, bp, hz⟩ := boxes2 w 27 27 #[.int .i64 0, .int .i64 0, .int .i64 0, .int .i64 0, .string ⟨#[]⟩, .slice none 0 0, .string ⟨#[]⟩, .bool false] #[.int .i64 0, .int .i64 0, .int .i64 0, .int .i64 0, .string ⟨#[]⟩, .slice none 0 0, .string ⟨#[]⟩, .bool false]
  have hl0 : Laid2 w0 := hl.on hb0 (Nat.le_refl _)
  have hgl := hl.lt
  have NR := Lib.hid (newReader_any s w0 hs hl0)
  have L0 := Lib.hid hl0
  have BG0 := Lib.hid bg
  have BP0 := Lib.hid bp
  have B0 := Lib.hid hb0
  have GZ : Hid (g < w0.heap.size ∧ p < w0.heap.size ∧ w.heap.size ≤ g ∧ w.heap.size ≤ p ∧ g ≠ p ∧ 0 < w0.heap.size) := Lib.hid (by omega)
  have HK := Lib.hid hk
  have HX := Lib.hid hx
  have HI := Lib.hid hi
  have HB := Lib.hid hb
  clear hs hl hl0 hgl hk hx hi bg bp hb0 hz hb
  subst hkv
  go_enter Tryz.func50, Tryz.ntmps50
  go_upto_region 2 with (fail)
  rw [← hw, ← e_p, ← e_g]
  clear hw e_p e_g
  go_upto_region 3 with (go_at_call 65; refine NR.out.mono ?_; rintro e w1 ⟨b, v, u, rfl, hN⟩; have R1 := Lib.hid hN.rm; have N1 := Lib.hid hN; clear hN)
  have L1 := Lib.hid (L0.out.on N1.out.bel (Nat.le_refl _))
  have NB : Hid (b ≠ g ∧ b ≠ p ∧ 0 ≠ b ∧ w0.heap.size ≤ b ∧ w0.heap.size ≤ w1.heap.size ∧ b < w1.heap.size) := Lib.hid (by have h1 := GZ.out; have h2 := N1.out.ge; have h3 := N1.out.bel.size; have h4 := N1.out.blk.lt; omega)
  have B1 := Lib.hid (B0.out.trans (N1.out.bel.mono B0.out.size))
  have BG1 := Lib.hid (BG0.out.below N1.out.bel)
  have BP1 := Lib.hid (BP0.out.below N1.out.bel)
  have NU := Lib.hid (rdNum_any R1.out)
  simp only [← HK.out] at NU
  go_upto_region 5 with (first
    | (go_at_call 66; refine NU.out.mono ?_; rintro e w3 ⟨rfl, hr, hf⟩; have R3 := Lib.hid hr; have F3 := Lib.hid hf; clear hr hf))
  have L3 := Lib.hid (L1.out.far F3.out NB.out.2.2.1)
  have EA := Lib.hid (repR_any R3.out F3.out.size L3.out NB.out.2.2.1)
  rw [show (rk : Rd) = ⟨rk.items, rk.bad⟩ from rfl] at EA
  simp only [← HX.out] at EA
  go_upto_region 6 with (go_at_call 51; refine EA.out.mono ?_; rintro e w4 ⟨vl, rfl, hown, hr, hf⟩; obtain ⟨A, c, rfl⟩ := own_shape hown; unfold cellR; have R4 := Lib.hid hr; have F4 := Lib.hid (F3.out.trans hf (fun _ _ e => e)); have O4 := Lib.hid hown; have L4 := Lib.hid (L3.out.far hf NB.out.2.2.1); have S34 := Lib.hid hf.size; clear hr hf hown)
  obtain ⟨w5, q, hw5, hq, hb5, kq, hz5⟩ := box_new w4 27 #[.int .i64 y1, .int .i64 y2, .int .i64 y3, .int .i64 y4, .string y5, .slice A l.length c, .string y7, .bool y8]
  rw [← hw5, ← hq]
  have R5 := Lib.hid (R4.out.below hb5)
  have L5 := Lib.hid (L4.out.on hb5 (Nat.le_refl _))
  have F5 := Lib.hid (F4.out.call hb5)
  have BQ5 := Lib.hid kq
  have O5 := Lib.hid (own_below O4.out hb5)
  have GQ : Hid (g ≠ q ∧ p ≠ q ∧ b ≠ q ∧ w.heap.size ≤ q ∧ q < w5.heap.size ∧ 0 ≠ q) := Lib.hid (by have h1 := GZ.out; have h2 := NB.out; have h3 := F4.out.size; have h4 := B0.out.size; omega)
  clear hw5 hq hb5 kq hz5
  obtain ⟨v5, u5, hB5, ⟨A5, c5, rfl, -, -⟩, -, -, hE5, -⟩ := R5.out
  have d0 := hB5.cell 0
  have d1 := hB5.cell 1
  simp only [List.getElem?_toArray, List.getElem?_cons_succ, List.getElem?_cons_zero] at d0 d1
  rw [show r2.items.length = 0 from by rw [HI.out]; rfl] at d0
  go_upto_region 8 with (fail)
  clear d0 d1 hB5 hE5
  have R6 := R5
  have F6 := F5
  have L6 := L5
  have BQ6 := BQ5
  have O6 := O5
  obtain ⟨w7, m, hw7, hm, hb7, km, hz7⟩ := box_new w5 24 #[.int .i64 0]
  go_upto_region 9 with (fail)
  rw [← hw7, ← hm]
  have R7 := Lib.hid (R6.out.below hb7)
  have L7 := Lib.hid (L6.out.on hb7 (Nat.le_refl _))
  have F7 := Lib.hid (F6.out.call hb7)
  have BM7 := Lib.hid km
  have BQ7 := Lib.hid (BQ6.out.below hb7)
  have O7 := Lib.hid (own_below O6.out hb7)
  have GM : Hid (g ≠ m ∧ p ≠ m ∧ b ≠ m ∧ q ≠ m ∧ w.heap.size ≤ m ∧ m < w7.heap.size ∧ 0 ≠ m) := Lib.hid (by have h1 := GZ.out; have h2 := NB.out; have h3 := F6.out.size; have h4 := B0.out.size; have h5 := BQ6.out.lt; omega)
  clear hw7 hm hb7 km hz7
  have BG7 := Lib.hid (BG1.out.far F7.out (fun e => NB.out.1 e.symm))
  have BP7 := Lib.hid (BP1.out.far F7.out (fun e => NB.out.2.1 e.symm))
  have B7 := Lib.hid (B1.out.trans (F7.out.below (B := w.heap.size) B1.out.size (fun i e => by rw [e]; exact Nat.le_trans B0.out.size NB.out.2.2.2.1)))
  obtain ⟨v7, u7, hB7, -, -, -, hE7, -⟩ := R7.out
  have d1 := hB7.cell 1
  simp only [List.getElem?_toArray, List.getElem?_cons_succ, List.getElem?_cons_zero] at d1
  obtain ⟨s7, rfl⟩ : ∃ s7 : ByteArray, u7 = .iface 121 (.agg #[.string s7, .int .i64 2]) := by
    rcases hE7 with ⟨h1, _⟩ | ⟨_, s7, h⟩
    · rw [show _ = true from HB.out] at h1; cases h1
    · exact ⟨s7, h⟩
  have AS := Lib.hid (as_frame_number s7 2 m (.int .i64 0) w7 L7.out (by rw [BM7.out.cell]; rfl) (BM7.out.frozen 0))
  go_upto_region 10 with (go_at_call 68; refine AS.out.mono ?_; rintro e w8 ⟨rfl, W, hg, rfl⟩; have GR := Lib.hid hg; clear hg)
  have BW := Lib.hid (Below.grownNone (Below.refl w7.heap.size w7) (Nat.le_refl _) GR.out)
  obtain ⟨w8, hw8⟩ : ∃ z, z = W.setCell ⟨m, 0, none⟩ (.int .i64 2) := ⟨_, rfl⟩
  rw [← hw8]
  have hf8 : Far (fun i => i = m) w7 w8 := by rw [hw8]; exact ((far_of_below BW.out).mono (fun _ _ e => e.elim)).trans (set_far _ _ _ _) (fun _ _ e => e)
  have BM8 : Hid (Blk w8 m 24 #[.int .i64 2]) := Lib.hid (by rw [hw8]; exact (BM7.out.below BW.out).set 0 _)
  have BP8 := Lib.hid (BP7.out.far hf8 GM.out.2.1)
  have BG8 := Lib.hid (BG7.out.far hf8 GM.out.1)
  have B8 := Lib.hid (B7.out.trans (hf8.below (B := w.heap.size) B7.out.size (fun i e => by rw [e]; exact GM.out.2.2.2.2.1)))
  clear hw8 hf8 d1 hB7 hE7 BW GR
  refine Segs.wp_region_last (fun WW => (Blk WW p 27 #[.int .i64 0, .int .i64 0, .int .i64 0, .int .i64 0, .string ⟨#[]⟩, .slice none 0 0, .string ⟨#[]⟩, .bool false] ∧ Blk WW m 24 #[.int .i64 2])) [(0, false), (1, false), (2, true), (3, true)] (by kernel_rfl) (by kernel_rfl) (by kernel_rfl) rfl (by kernel_rfl) (by exact ⟨BP8.out, BM8.out⟩) ?_
  have BP9 : Hid (Blk w8.drew p 27 #[.int .i64 0, .int .i64 0, .int .i64 0, .int .i64 0, .string ⟨#[]⟩, .slice none 0 0, .string ⟨#[]⟩, .bool false]) := Lib.hid (by exact BP8.out)
  have BG9 : Hid (Blk w8.drew g 27 #[.int .i64 0, .int .i64 0, .int .i64 0, .int .i64 0, .string ⟨#[]⟩, .slice none 0 0, .string ⟨#[]⟩, .bool false]) := Lib.hid (by exact BG8.out)
  have BM9 : Hid (Blk w8.drew m 24 #[.int .i64 2]) := Lib.hid (by exact BM8.out)
  have B9 := Lib.hid B8.out.drew
  generalize w8.drew = w9 at BP9 BG9 BM9 B9 ⊢
  refine Segs.WQ.val 0 rfl (some 41) (.agg #[.int .i64 0, .int .i64 0, .int .i64 0, .int .i64 0, .string ⟨#[]⟩, .slice none 0 0, .string ⟨#[]⟩, .bool false]) rfl (by kernel_rfl) (fun WW hG => Segs.run_row 27 (.tmp 10) rfl p (by kernel_rfl) 27 #[.int .i64 0, .int .i64 0, .int .i64 0, .int .i64 0, .string ⟨#[]⟩, .slice none 0 0, .string ⟨#[]⟩, .bool false] _ hG.1 Tryz.underlying27 rfl (by kernel_rfl)) ?_
  simp only [Act.put, List.setIfInBounds_toArray, List.set_cons_zero, List.set_cons_succ]
  refine Segs.WQ.val 1 rfl (some 42) (.int .i64 2) rfl (by kernel_rfl) (fun WW hG => Segs.run_cell 24 (.tmp 13) rfl m 0 (by kernel_rfl) _ (isAggEr _) (by rw [hG.2.cell]; rfl)) ?_
  simp only [Act.put, List.setIfInBounds_toArray, List.set_cons_zero, List.set_cons_succ]
  have hf10 : Far (fun i => i = g) w9 (w9.setRow g #[.int .i64 0, .int .i64 0, .int .i64 0, .int .i64 0, .string ⟨#[]⟩, .slice none 0 0, .string ⟨#[]⟩, .bool false]) := Far.setRow (S := fun i => i = g) (Far.refl _ w9) (fun _ => rfl) _
  refine Segs.WQ.askip 2 rfl (w9.setRow g #[.int .i64 0, .int .i64 0, .int .i64 0, .int .i64 0, .string ⟨#[]⟩, .slice none 0 0, .string ⟨#[]⟩, .bool false]) rfl rfl (Segs.run_storeRow rfl g #[.int .i64 0, .int .i64 0, .int .i64 0, .int .i64 0, .string ⟨#[]⟩, .slice none 0 0, .string ⟨#[]⟩, .bool false] (by kernel_rfl) (by kernel_rfl) 27 #[.int .i64 0, .int .i64 0, .int .i64 0, .int .i64 0, .string ⟨#[]⟩, .slice none 0 0, .string ⟨#[]⟩, .bool false] BG9.out (by kernel_rfl) rfl (by simp [Value.oneCell'])) (fun _ => ⟨BP9.out.far hf10 (fun e => GZ.out.2.2.2.2.1 e.symm), BM9.out.far hf10 (fun e => GM.out.1 e.symm)⟩) ?_
  refine Segs.WQ.aval 3 rfl (some 9) (.int .i64 2) (w9.setRow g #[.int .i64 0, .int .i64 0, .int .i64 0, .int .i64 0, .string ⟨#[]⟩, .slice none 0 0, .string ⟨#[]⟩, .bool false]) rfl rfl (by kernel_rfl) (fun _ => ⟨BP9.out.far hf10 (fun e => GZ.out.2.2.2.2.1 e.symm), BM9.out.far hf10 (fun e => GM.out.1 e.symm)⟩) ?_
  simp only [Act.put, List.setIfInBounds_toArray, List.set_cons_zero, List.set_cons_succ]
  refine Segs.WQ.fin ?_
  have B10 := B9.out.trans (hf10.below (B := w.heap.size) B9.out.size (fun i e => by rw [e]; exact GZ.out.2.2.1))
  have h5 : Blk (w9.setRow g #[.int .i64 0, .int .i64 0, .int .i64 0, .int .i64 0, .string ⟨#[]⟩, .slice none 0 0, .string ⟨#[]⟩, .bool false]) g 27 [(.int .i64 0 : Value), (.int .i64 0 : Value), (.int .i64 0 : Value), (.int .i64 0 : Value), (.string ⟨#[]⟩ : Value), (.slice none 0 0 : Value), (.string ⟨#[]⟩ : Value), (.bool false : Value)].toArray := heap_setRow _ _ _ _ _ _ BG9.out
  go_wp2_with fail
  refine bodyPost_ret (results_b2 rfl isAggR sizeR _ _ g rfl rfl h5 rfl) rfl ?_
  exact ⟨_, rfl, ⟨rfl, .inl ⟨rfl, rfl⟩⟩, B10⟩
set_option maxRecDepth 100000 in
set_option maxHeartbeats 4000000 in
theorem readR_e {s : ByteArray} {w : World} {kv : Int} {rk r2 : Rd} {y1 y2 y3 y4 : Int} {y5 : ByteArray} {l : List Ent} {y7 : ByteArray} {y8 : Bool} (hs : s.size ≤ 999999) (hl : Laid2 w) (hk : (kv, rk) = rdNum (newR s)) (hkv : kv = 1) (hx : (⟨y1, y2, y3, y4, y5, l, y7, y8⟩, r2) = repR ⟨rk.items, rk.bad⟩) (hi : r2.items = []) (hb : r2.bad = false) (hv : validR ⟨y1, y2, y3, y4, y5, l, y7, y8⟩ = false) :
    Calls Tryz.prog 50 #[.string s, .int .i64 1, .func (.func 51) #[] #[], .func (.func 9) #[] #[]] w fun e w' => ∃ vl, e = .returned (.tuple #[.agg #[.int .i64 0, .int .i64 0, .int .i64 0, .int .i64 0, .string ⟨#[]⟩, vl, .string ⟨#[]⟩, .bool false], .int .i64 2]) ∧ w'.ownsRow w.heap.size 52 2 vl 0 [] ∧ Below w.heap.size w w' := by
  obtain ⟨w0, g, p, hw, e_g, e_p, hb0, bg, bp, hz⟩ := boxes2 w 27 27 #[.int .i64 0, .int .i64 0, .int .i64 0, .int .i64 0, .string ⟨#[]⟩, .slice none 0 0, .string ⟨#[]⟩, .bool false] #[.int .i64 0, .int .i64 0, .int .i64 0, .int .i64 0, .string ⟨#[]⟩, .slice none 0 0, .string ⟨#[]⟩, .bool false]
  have hl0 : Laid2 w0 := hl.on hb0 (Nat.le_refl _)
  have hgl := hl.lt
  have NR := Lib.hid (newReader_any s w0 hs hl0)
  have L0 := Lib.hid hl0
  have BG0 := Lib.hid bg
  have BP0 := Lib.hid bp
  have B0 := Lib.hid hb0
  have GZ : Hid (g < w0.heap.size ∧ p < w0.heap.size ∧ w.heap.size ≤ g ∧ w.heap.size ≤ p ∧ g ≠ p ∧ 0 < w0.heap.size) := Lib.hid (by omega)
  have HK := Lib.hid hk
  have HX := Lib.hid hx
  have HI := Lib.hid hi
  have HB := Lib.hid hb
  clear hs hl hl0 hgl hk hx hi bg bp hb0 hz hb
  subst hkv
  go_enter Tryz.func50, Tryz.ntmps50
  go_upto_region 2 with (fail)
  rw [← hw, ← e_p, ← e_g]
  clear hw e_p e_g
  go_upto_region 3 with (go_at_call 65; refine NR.out.mono ?_; rintro e w1 ⟨b, v, u, rfl, hN⟩; have R1 := Lib.hid hN.rm; have N1 := Lib.hid hN; clear hN)
  have L1 := Lib.hid (L0.out.on N1.out.bel (Nat.le_refl _))
  have NB : Hid (b ≠ g ∧ b ≠ p ∧ 0 ≠ b ∧ w0.heap.size ≤ b ∧ w0.heap.size ≤ w1.heap.size ∧ b < w1.heap.size) := Lib.hid (by have h1 := GZ.out; have h2 := N1.out.ge; have h3 := N1.out.bel.size; have h4 := N1.out.blk.lt; omega)
  have B1 := Lib.hid (B0.out.trans (N1.out.bel.mono B0.out.size))
  have BG1 := Lib.hid (BG0.out.below N1.out.bel)
  have BP1 := Lib.hid (BP0.out.below N1.out.bel)
  have NU := Lib.hid (rdNum_any R1.out)
  simp only [← HK.out] at NU
  go_upto_region 5 with (first
    | (go_at_call 66; refine NU.out.mono ?_; rintro e w3 ⟨rfl, hr, hf⟩; have R3 := Lib.hid hr; have F3 := Lib.hid hf; clear hr hf))
  have L3 := Lib.hid (L1.out.far F3.out NB.out.2.2.1)
  have EA := Lib.hid (repR_any R3.out F3.out.size L3.out NB.out.2.2.1)
  rw [show (rk : Rd) = ⟨rk.items, rk.bad⟩ from rfl] at EA
  simp only [← HX.out] at EA
  go_upto_region 6 with (go_at_call 51; refine EA.out.mono ?_; rintro e w4 ⟨vl, rfl, hown, hr, hf⟩; obtain ⟨A, c, rfl⟩ := own_shape hown; unfold cellR; have R4 := Lib.hid hr; have F4 := Lib.hid (F3.out.trans hf (fun _ _ e => e)); have O4 := Lib.hid hown; have L4 := Lib.hid (L3.out.far hf NB.out.2.2.1); have S34 := Lib.hid hf.size; clear hr hf hown)
  obtain ⟨w5, q, hw5, hq, hb5, kq, hz5⟩ := box_new w4 27 #[.int .i64 y1, .int .i64 y2, .int .i64 y3, .int .i64 y4, .string y5, .slice A l.length c, .string y7, .bool y8]
  rw [← hw5, ← hq]
  have R5 := Lib.hid (R4.out.below hb5)
  have L5 := Lib.hid (L4.out.on hb5 (Nat.le_refl _))
  have F5 := Lib.hid (F4.out.call hb5)
  have BQ5 := Lib.hid kq
  have O5 := Lib.hid (own_below O4.out hb5)
  have GQ : Hid (g ≠ q ∧ p ≠ q ∧ b ≠ q ∧ w.heap.size ≤ q ∧ q < w5.heap.size ∧ 0 ≠ q) := Lib.hid (by have h1 := GZ.out; have h2 := NB.out; have h3 := F4.out.size; have h4 := B0.out.size; omega)
  clear hw5 hq hb5 kq hz5
  obtain ⟨v5, u5, hB5, ⟨A5, c5, rfl, -, -⟩, -, -, hE5, -⟩ := R5.out
  have d0 := hB5.cell 0
  have d1 := hB5.cell 1
  simp only [List.getElem?_toArray, List.getElem?_cons_succ, List.getElem?_cons_zero] at d0 d1
  rw [show r2.items.length = 0 from by rw [HI.out]; rfl] at d0
  go_upto_region 8 with (fail)
  clear d0 d1 hB5 hE5
  have R6 := R5
  have F6 := F5
  have L6 := L5
  have BQ6 := BQ5
  have O6 := O5
  obtain ⟨w7, m, hw7, hm, hb7, km, hz7⟩ := box_new w5 24 #[.int .i64 0]
  go_upto_region 9 with (fail)
  rw [← hw7, ← hm]
  have R7 := Lib.hid (R6.out.below hb7)
  have L7 := Lib.hid (L6.out.on hb7 (Nat.le_refl _))
  have F7 := Lib.hid (F6.out.call hb7)
  have BM7 := Lib.hid km
  have BQ7 := Lib.hid (BQ6.out.below hb7)
  have O7 := Lib.hid (own_below O6.out hb7)
  have GM : Hid (g ≠ m ∧ p ≠ m ∧ b ≠ m ∧ q ≠ m ∧ w.heap.size ≤ m ∧ m < w7.heap.size ∧ 0 ≠ m) := Lib.hid (by have h1 := GZ.out; have h2 := NB.out; have h3 := F6.out.size; have h4 := B0.out.size; have h5 := BQ6.out.lt; omega)
  clear hw7 hm hb7 km hz7
  have BG7 := Lib.hid (BG1.out.far F7.out (fun e => NB.out.1 e.symm))
  have BP7 := Lib.hid (BP1.out.far F7.out (fun e => NB.out.2.1 e.symm))
  have B7 := Lib.hid (B1.out.trans (F7.out.below (B := w.heap.size) B1.out.size (fun i e => by rw [e]; exact Nat.le_trans B0.out.size NB.out.2.2.2.1)))
  obtain ⟨v7, u7, hB7, -, -, -, hE7, -⟩ := R7.out
  have d1 := hB7.cell 1
  simp only [List.getElem?_toArray, List.getElem?_cons_succ, List.getElem?_cons_zero] at d1
  obtain rfl : u7 = .nilIface := by
    rcases hE7 with ⟨_, h⟩ | ⟨h1, _⟩
    · exact h
    · rw [HB.out] at h1; cases h1
  have c0 := BQ7.out.cell 0
  have c1 := BQ7.out.cell 1
  have c2 := BQ7.out.cell 2
  have c3 := BQ7.out.cell 3
  have c4 := BQ7.out.cell 4
  have c5 := BQ7.out.cell 5
  have c6 := BQ7.out.cell 6
  have c7 := BQ7.out.cell 7
  simp only [List.getElem?_toArray, List.getElem?_cons_succ, List.getElem?_cons_zero] at c0 c1 c2 c3 c4 c5 c6 c7
  have PU := Lib.hid (putReply_any (r := ⟨y1, y2, y3, y4, y5, l, y7, y8⟩) (Es.of_own O7.out))
  unfold cellR at PU
  rw [hv] at PU
  simp only [Bool.false_eq_true, if_false] at PU
  clear hv hB7 hE7
  go_upto_region 11 with (go_at_call 68; refine (as_nil _ _).mono ?_; rintro e w8 ⟨rfl, rfl⟩)
  go_upto_region 13 with (go_at_call 9; refine PU.out.mono ?_; rintro e w8 ⟨rfl, hb⟩; have BH := Lib.hid hb; clear hb)
  clear c0 c1 c2 c3 c4 c5 c6 c7 d1
  have BX8 := Lib.hid (BP7.out.below BH.out)
  have BG8 := Lib.hid (BG7.out.below BH.out)
  have B8 := Lib.hid (B7.out.trans (BH.out.mono B7.out.size))
  have c0 := BX8.out.cell 0
  have k0 := BG8.out.cell 0
  have f0 := BG8.out.frozen 0
  have c1 := BX8.out.cell 1
  have k1 := BG8.out.cell 1
  have f1 := BG8.out.frozen 1
  have c2 := BX8.out.cell 2
  have k2 := BG8.out.cell 2
  have f2 := BG8.out.frozen 2
  have c3 := BX8.out.cell 3
  have k3 := BG8.out.cell 3
  have f3 := BG8.out.frozen 3
  have c4 := BX8.out.cell 4
  have k4 := BG8.out.cell 4
  have f4 := BG8.out.frozen 4
  have c5 := BX8.out.cell 5
  have k5 := BG8.out.cell 5
  have f5 := BG8.out.frozen 5
  have c6 := BX8.out.cell 6
  have k6 := BG8.out.cell 6
  have f6 := BG8.out.frozen 6
  have c7 := BX8.out.cell 7
  have k7 := BG8.out.cell 7
  have f7 := BG8.out.frozen 7
  simp only [List.getElem?_toArray, List.getElem?_cons_succ, List.getElem?_cons_zero] at c0 k0 c1 k1 c2 k2 c3 k3 c4 k4 c5 k5 c6 k6 c7 k7
  go_wp2_with fail
  have h5 : Blk ((((((((w8.setCell ⟨g, 0, none⟩ (.int .i64 0)).setCell ⟨g, 1, none⟩ (.int .i64 0)).setCell ⟨g, 2, none⟩ (.int .i64 0)).setCell ⟨g, 3, none⟩ (.int .i64 0)).setCell ⟨g, 4, none⟩ (.string ⟨#[]⟩)).setCell ⟨g, 5, none⟩ (.slice none 0 0)).setCell ⟨g, 6, none⟩ (.string ⟨#[]⟩)).setCell ⟨g, 7, none⟩ (.bool false)) g 27 [(.int .i64 0 : Value), (.int .i64 0 : Value), (.int .i64 0 : Value), (.int .i64 0 : Value), (.string ⟨#[]⟩ : Value), (.slice none 0 0 : Value), (.string ⟨#[]⟩ : Value), (.bool false : Value)].toArray := ((((((((BG8.out).set 0 _).set 1 _).set 2 _).set 3 _).set 4 _).set 5 _).set 6 _).set 7 _
  have f5 : Far (fun i => i = g) w8 ((((((((w8.setCell ⟨g, 0, none⟩ (.int .i64 0)).setCell ⟨g, 1, none⟩ (.int .i64 0)).setCell ⟨g, 2, none⟩ (.int .i64 0)).setCell ⟨g, 3, none⟩ (.int .i64 0)).setCell ⟨g, 4, none⟩ (.string ⟨#[]⟩)).setCell ⟨g, 5, none⟩ (.slice none 0 0)).setCell ⟨g, 6, none⟩ (.string ⟨#[]⟩)).setCell ⟨g, 7, none⟩ (.bool false)) := (((((((set_far _ _ _ _).trans (set_far _ _ _ _) (fun _ _ e => e)).trans (set_far _ _ _ _) (fun _ _ e => e)).trans (set_far _ _ _ _) (fun _ _ e => e)).trans (set_far _ _ _ _) (fun _ _ e => e)).trans (set_far _ _ _ _) (fun _ _ e => e)).trans (set_far _ _ _ _) (fun _ _ e => e)).trans (set_far _ _ _ _) (fun _ _ e => e)
  refine bodyPost_ret (results_b2 rfl isAggR sizeR _ _ g rfl rfl h5 rfl) rfl ?_
  have BZ := B8.out.trans (f5.below (B := w.heap.size) B8.out.size (fun i e => by rw [e]; exact GZ.out.2.2.1))
  exact ⟨_, rfl, ⟨rfl, .inl ⟨rfl, rfl⟩⟩, BZ⟩
set_option maxRecDepth 100000 in
set_option maxHeartbeats 4000000 in
theorem readR_f {s : ByteArray} {w : World} {kv : Int} {rk r2 : Rd} {y1 y2 y3 y4 : Int} {y5 : ByteArray} {l : List Ent} {y7 : ByteArray} {y8 : Bool} (hs : s.size ≤ 999999) (hl : Laid2 w) (hk : (kv, rk) = rdNum (newR s)) (hkv : kv = 1) (hx : (⟨y1, y2, y3, y4, y5, l, y7, y8⟩, r2) = repR ⟨rk.items, rk.bad⟩) (hi : r2.items = []) (hb : r2.bad = false) (hv : validR ⟨y1, y2, y3, y4, y5, l, y7, y8⟩ = true) (hp : ¬ putR ⟨y1, y2, y3, y4, y5, l, y7, y8⟩ = s) :
    Calls Tryz.prog 50 #[.string s, .int .i64 1, .func (.func 51) #[] #[], .func (.func 9) #[] #[]] w fun e w' => ∃ vl, e = .returned (.tuple #[.agg #[.int .i64 0, .int .i64 0, .int .i64 0, .int .i64 0, .string ⟨#[]⟩, vl, .string ⟨#[]⟩, .bool false], .int .i64 2]) ∧ w'.ownsRow w.heap.size 52 2 vl 0 [] ∧ Below w.heap.size w w' := by
  obtain ⟨w0, g, p, hw, e_g, e_p, hb0, bg, bp, hz⟩ := boxes2 w 27 27 #[.int .i64 0, .int .i64 0, .int .i64 0, .int .i64 0, .string ⟨#[]⟩, .slice none 0 0, .string ⟨#[]⟩, .bool false] #[.int .i64 0, .int .i64 0, .int .i64 0, .int .i64 0, .string ⟨#[]⟩, .slice none 0 0, .string ⟨#[]⟩, .bool false]
  have hl0 : Laid2 w0 := hl.on hb0 (Nat.le_refl _)
  have hgl := hl.lt
  have NR := Lib.hid (newReader_any s w0 hs hl0)
  have L0 := Lib.hid hl0
  have BG0 := Lib.hid bg
  have BP0 := Lib.hid bp
  have B0 := Lib.hid hb0
  have GZ : Hid (g < w0.heap.size ∧ p < w0.heap.size ∧ w.heap.size ≤ g ∧ w.heap.size ≤ p ∧ g ≠ p ∧ 0 < w0.heap.size) := Lib.hid (by omega)
  have HK := Lib.hid hk
  have HX := Lib.hid hx
  have HI := Lib.hid hi
  have HB := Lib.hid hb
  clear hs hl hl0 hgl hk hx hi bg bp hb0 hz hb
  subst hkv
  go_enter Tryz.func50, Tryz.ntmps50
  go_upto_region 2 with (fail)
  rw [← hw, ← e_p, ← e_g]
  clear hw e_p e_g
  go_upto_region 3 with (go_at_call 65; refine NR.out.mono ?_; rintro e w1 ⟨b, v, u, rfl, hN⟩; have R1 := Lib.hid hN.rm; have N1 := Lib.hid hN; clear hN)
  have L1 := Lib.hid (L0.out.on N1.out.bel (Nat.le_refl _))
  have NB : Hid (b ≠ g ∧ b ≠ p ∧ 0 ≠ b ∧ w0.heap.size ≤ b ∧ w0.heap.size ≤ w1.heap.size ∧ b < w1.heap.size) := Lib.hid (by have h1 := GZ.out; have h2 := N1.out.ge; have h3 := N1.out.bel.size; have h4 := N1.out.blk.lt; omega)
  have B1 := Lib.hid (B0.out.trans (N1.out.bel.mono B0.out.size))
  have BG1 := Lib.hid (BG0.out.below N1.out.bel)
  have BP1 := Lib.hid (BP0.out.below N1.out.bel)
  have NU := Lib.hid (rdNum_any R1.out)
  simp only [← HK.out] at NU
  go_upto_region 5 with (first
    | (go_at_call 66; refine NU.out.mono ?_; rintro e w3 ⟨rfl, hr, hf⟩; have R3 := Lib.hid hr; have F3 := Lib.hid hf; clear hr hf))
  have L3 := Lib.hid (L1.out.far F3.out NB.out.2.2.1)
  have EA := Lib.hid (repR_any R3.out F3.out.size L3.out NB.out.2.2.1)
  rw [show (rk : Rd) = ⟨rk.items, rk.bad⟩ from rfl] at EA
  simp only [← HX.out] at EA
  go_upto_region 6 with (go_at_call 51; refine EA.out.mono ?_; rintro e w4 ⟨vl, rfl, hown, hr, hf⟩; obtain ⟨A, c, rfl⟩ := own_shape hown; unfold cellR; have R4 := Lib.hid hr; have F4 := Lib.hid (F3.out.trans hf (fun _ _ e => e)); have O4 := Lib.hid hown; have L4 := Lib.hid (L3.out.far hf NB.out.2.2.1); have S34 := Lib.hid hf.size; clear hr hf hown)
  obtain ⟨w5, q, hw5, hq, hb5, kq, hz5⟩ := box_new w4 27 #[.int .i64 y1, .int .i64 y2, .int .i64 y3, .int .i64 y4, .string y5, .slice A l.length c, .string y7, .bool y8]
  rw [← hw5, ← hq]
  have R5 := Lib.hid (R4.out.below hb5)
  have L5 := Lib.hid (L4.out.on hb5 (Nat.le_refl _))
  have F5 := Lib.hid (F4.out.call hb5)
  have BQ5 := Lib.hid kq
  have O5 := Lib.hid (own_below O4.out hb5)
  have GQ : Hid (g ≠ q ∧ p ≠ q ∧ b ≠ q ∧ w.heap.size ≤ q ∧ q < w5.heap.size ∧ 0 ≠ q) := Lib.hid (by have h1 := GZ.out; have h2 := NB.out; have h3 := F4.out.size; have h4 := B0.out.size; omega)
  clear hw5 hq hb5 kq hz5
  obtain ⟨v5, u5, hB5, ⟨A5, c5, rfl, -, -⟩, -, -, hE5, -⟩ := R5.out
  have d0 := hB5.cell 0
  have d1 := hB5.cell 1
  simp only [List.getElem?_toArray, List.getElem?_cons_succ, List.getElem?_cons_zero] at d0 d1
  rw [show r2.items.length = 0 from by rw [HI.out]; rfl] at d0
  go_upto_region 8 with (fail)
  clear d0 d1 hB5 hE5
  have R6 := R5
  have F6 := F5
  have L6 := L5
  have BQ6 := BQ5
  have O6 := O5
  obtain ⟨w7, m, hw7, hm, hb7, km, hz7⟩ := box_new w5 24 #[.int .i64 0]
  go_upto_region 9 with (fail)
  rw [← hw7, ← hm]
  have R7 := Lib.hid (R6.out.below hb7)
  have L7 := Lib.hid (L6.out.on hb7 (Nat.le_refl _))
  have F7 := Lib.hid (F6.out.call hb7)
  have BM7 := Lib.hid km
  have BQ7 := Lib.hid (BQ6.out.below hb7)
  have O7 := Lib.hid (own_below O6.out hb7)
  have GM : Hid (g ≠ m ∧ p ≠ m ∧ b ≠ m ∧ q ≠ m ∧ w.heap.size ≤ m ∧ m < w7.heap.size ∧ 0 ≠ m) := Lib.hid (by have h1 := GZ.out; have h2 := NB.out; have h3 := F6.out.size; have h4 := B0.out.size; have h5 := BQ6.out.lt; omega)
  clear hw7 hm hb7 km hz7
  have BG7 := Lib.hid (BG1.out.far F7.out (fun e => NB.out.1 e.symm))
  have BP7 := Lib.hid (BP1.out.far F7.out (fun e => NB.out.2.1 e.symm))
  have B7 := Lib.hid (B1.out.trans (F7.out.below (B := w.heap.size) B1.out.size (fun i e => by rw [e]; exact Nat.le_trans B0.out.size NB.out.2.2.2.1)))
  obtain ⟨v7, u7, hB7, -, -, -, hE7, -⟩ := R7.out
  have d1 := hB7.cell 1
  simp only [List.getElem?_toArray, List.getElem?_cons_succ, List.getElem?_cons_zero] at d1
  obtain rfl : u7 = .nilIface := by
    rcases hE7 with ⟨_, h⟩ | ⟨h1, _⟩
    · exact h
    · rw [HB.out] at h1; cases h1
  have c0 := BQ7.out.cell 0
  have c1 := BQ7.out.cell 1
  have c2 := BQ7.out.cell 2
  have c3 := BQ7.out.cell 3
  have c4 := BQ7.out.cell 4
  have c5 := BQ7.out.cell 5
  have c6 := BQ7.out.cell 6
  have c7 := BQ7.out.cell 7
  simp only [List.getElem?_toArray, List.getElem?_cons_succ, List.getElem?_cons_zero] at c0 c1 c2 c3 c4 c5 c6 c7
  have PU := Lib.hid (putReply_any (r := ⟨y1, y2, y3, y4, y5, l, y7, y8⟩) (Es.of_own O7.out))
  unfold cellR at PU
  rw [hv] at PU
  simp only [if_true] at PU
  obtain ⟨PX, hPX⟩ : ∃ q, q = putR ⟨y1, y2, y3, y4, y5, l, y7, y8⟩ := ⟨_, rfl⟩
  rw [← hPX] at PU hp
  have hne : ¬ PX.toList = s.toList := fun e => hp (Mdl.bytes_ext (by rw [← Lib.toList_data, ← Lib.toList_data]; exact e))
  have hne2 : (PX.toList == s.toList) = false := by simp [hne]
  have hne3 : (PX.toList != s.toList) = true := by simp [hne]
  clear hPX hp
  clear hv hB7 hE7
  go_upto_region 11 with (go_at_call 68; refine (as_nil _ _).mono ?_; rintro e w8 ⟨rfl, rfl⟩)
  go_upto_region 13 with (go_at_call 9; refine PU.out.mono ?_; rintro e w8 ⟨rfl, hb⟩; have BH := Lib.hid hb; clear hb)
  clear c0 c1 c2 c3 c4 c5 c6 c7 d1
  have BX8 := Lib.hid (BP7.out.below BH.out)
  have BG8 := Lib.hid (BG7.out.below BH.out)
  have B8 := Lib.hid (B7.out.trans (BH.out.mono B7.out.size))
  have c0 := BX8.out.cell 0
  have k0 := BG8.out.cell 0
  have f0 := BG8.out.frozen 0
  have c1 := BX8.out.cell 1
  have k1 := BG8.out.cell 1
  have f1 := BG8.out.frozen 1
  have c2 := BX8.out.cell 2
  have k2 := BG8.out.cell 2
  have f2 := BG8.out.frozen 2
  have c3 := BX8.out.cell 3
  have k3 := BG8.out.cell 3
  have f3 := BG8.out.frozen 3
  have c4 := BX8.out.cell 4
  have k4 := BG8.out.cell 4
  have f4 := BG8.out.frozen 4
  have c5 := BX8.out.cell 5
  have k5 := BG8.out.cell 5
  have f5 := BG8.out.frozen 5
  have c6 := BX8.out.cell 6
  have k6 := BG8.out.cell 6
  have f6 := BG8.out.frozen 6
  have c7 := BX8.out.cell 7
  have k7 := BG8.out.cell 7
  have f7 := BG8.out.frozen 7
  simp only [List.getElem?_toArray, List.getElem?_cons_succ, List.getElem?_cons_zero] at c0 k0 c1 k1 c2 k2 c3 k3 c4 k4 c5 k5 c6 k6 c7 k7
  go_wp2_with fail
  have h5 : Blk ((((((((w8.setCell ⟨g, 0, none⟩ (.int .i64 0)).setCell ⟨g, 1, none⟩ (.int .i64 0)).setCell ⟨g, 2, none⟩ (.int .i64 0)).setCell ⟨g, 3, none⟩ (.int .i64 0)).setCell ⟨g, 4, none⟩ (.string ⟨#[]⟩)).setCell ⟨g, 5, none⟩ (.slice none 0 0)).setCell ⟨g, 6, none⟩ (.string ⟨#[]⟩)).setCell ⟨g, 7, none⟩ (.bool false)) g 27 [(.int .i64 0 : Value), (.int .i64 0 : Value), (.int .i64 0 : Value), (.int .i64 0 : Value), (.string ⟨#[]⟩ : Value), (.slice none 0 0 : Value), (.string ⟨#[]⟩ : Value), (.bool false : Value)].toArray := ((((((((BG8.out).set 0 _).set 1 _).set 2 _).set 3 _).set 4 _).set 5 _).set 6 _).set 7 _
  have f5 : Far (fun i => i = g) w8 ((((((((w8.setCell ⟨g, 0, none⟩ (.int .i64 0)).setCell ⟨g, 1, none⟩ (.int .i64 0)).setCell ⟨g, 2, none⟩ (.int .i64 0)).setCell ⟨g, 3, none⟩ (.int .i64 0)).setCell ⟨g, 4, none⟩ (.string ⟨#[]⟩)).setCell ⟨g, 5, none⟩ (.slice none 0 0)).setCell ⟨g, 6, none⟩ (.string ⟨#[]⟩)).setCell ⟨g, 7, none⟩ (.bool false)) := (((((((set_far _ _ _ _).trans (set_far _ _ _ _) (fun _ _ e => e)).trans (set_far _ _ _ _) (fun _ _ e => e)).trans (set_far _ _ _ _) (fun _ _ e => e)).trans (set_far _ _ _ _) (fun _ _ e => e)).trans (set_far _ _ _ _) (fun _ _ e => e)).trans (set_far _ _ _ _) (fun _ _ e => e)).trans (set_far _ _ _ _) (fun _ _ e => e)
  refine bodyPost_ret (results_b2 rfl isAggR sizeR _ _ g rfl rfl h5 rfl) rfl ?_
  have BZ := B8.out.trans (f5.below (B := w.heap.size) B8.out.size (fun i e => by rw [e]; exact GZ.out.2.2.1))
  exact ⟨_, rfl, ⟨rfl, .inl ⟨rfl, rfl⟩⟩, BZ⟩
set_option maxRecDepth 100000 in
set_option maxHeartbeats 4000000 in
theorem readR_g {s : ByteArray} {w : World} {kv : Int} {rk r2 : Rd} {y1 y2 y3 y4 : Int} {y5 : ByteArray} {l : List Ent} {y7 : ByteArray} {y8 : Bool} (hs : s.size ≤ 999999) (hl : Laid2 w) (hk : (kv, rk) = rdNum (newR s)) (hkv : kv = 1) (hx : (⟨y1, y2, y3, y4, y5, l, y7, y8⟩, r2) = repR ⟨rk.items, rk.bad⟩) (hi : r2.items = []) (hb : r2.bad = false) (hv : validR ⟨y1, y2, y3, y4, y5, l, y7, y8⟩ = true) (hp : putR ⟨y1, y2, y3, y4, y5, l, y7, y8⟩ = s) :
    Calls Tryz.prog 50 #[.string s, .int .i64 1, .func (.func 51) #[] #[], .func (.func 9) #[] #[]] w fun e w' => ∃ vl, e = .returned (.tuple #[.agg #[.int .i64 y1, .int .i64 y2, .int .i64 y3, .int .i64 y4, .string y5, vl, .string y7, .bool y8], .int .i64 0]) ∧ w'.ownsRow w.heap.size 52 2 vl l.length (flatE l) ∧ Below w.heap.size w w' := by
  obtain ⟨w0, g, p, hw, e_g, e_p, hb0, bg, bp, hz⟩ := boxes2 w 27 27 #[.int .i64 0, .int .i64 0, .int .i64 0, .int .i64 0, .string ⟨#[]⟩, .slice none 0 0, .string ⟨#[]⟩, .bool false] #[.int .i64 0, .int .i64 0, .int .i64 0, .int .i64 0, .string ⟨#[]⟩, .slice none 0 0, .string ⟨#[]⟩, .bool false]
  have hl0 : Laid2 w0 := hl.on hb0 (Nat.le_refl _)
  have hgl := hl.lt
  have NR := Lib.hid (newReader_any s w0 hs hl0)
  have L0 := Lib.hid hl0
  have BG0 := Lib.hid bg
  have BP0 := Lib.hid bp
  have B0 := Lib.hid hb0
  have GZ : Hid (g < w0.heap.size ∧ p < w0.heap.size ∧ w.heap.size ≤ g ∧ w.heap.size ≤ p ∧ g ≠ p ∧ 0 < w0.heap.size) := Lib.hid (by omega)
  have HK := Lib.hid hk
  have HX := Lib.hid hx
  have HI := Lib.hid hi
  have HB := Lib.hid hb
  clear hs hl hl0 hgl hk hx hi bg bp hb0 hz hb
  subst hkv
  go_enter Tryz.func50, Tryz.ntmps50
  go_upto_region 2 with (fail)
  rw [← hw, ← e_p, ← e_g]
  clear hw e_p e_g
  go_upto_region 3 with (go_at_call 65; refine NR.out.mono ?_; rintro e w1 ⟨b, v, u, rfl, hN⟩; have R1 := Lib.hid hN.rm; have N1 := Lib.hid hN; clear hN)
  have L1 := Lib.hid (L0.out.on N1.out.bel (Nat.le_refl _))
  have NB : Hid (b ≠ g ∧ b ≠ p ∧ 0 ≠ b ∧ w0.heap.size ≤ b ∧ w0.heap.size ≤ w1.heap.size ∧ b < w1.heap.size) := Lib.hid (by have h1 := GZ.out; have h2 := N1.out.ge; have h3 := N1.out.bel.size; have h4 := N1.out.blk.lt; omega)
  have B1 := Lib.hid (B0.out.trans (N1.out.bel.mono B0.out.size))
  have BG1 := Lib.hid (BG0.out.below N1.out.bel)
  have BP1 := Lib.hid (BP0.out.below N1.out.bel)
  have NU := Lib.hid (rdNum_any R1.out)
  simp only [← HK.out] at NU
  go_upto_region 5 with (first
    | (go_at_call 66; refine NU.out.mono ?_; rintro e w3 ⟨rfl, hr, hf⟩; have R3 := Lib.hid hr; have F3 := Lib.hid hf; clear hr hf))
  have L3 := Lib.hid (L1.out.far F3.out NB.out.2.2.1)
  have EA := Lib.hid (repR_any R3.out F3.out.size L3.out NB.out.2.2.1)
  rw [show (rk : Rd) = ⟨rk.items, rk.bad⟩ from rfl] at EA
  simp only [← HX.out] at EA
  go_upto_region 6 with (go_at_call 51; refine EA.out.mono ?_; rintro e w4 ⟨vl, rfl, hown, hr, hf⟩; obtain ⟨A, c, rfl⟩ := own_shape hown; unfold cellR; have R4 := Lib.hid hr; have F4 := Lib.hid (F3.out.trans hf (fun _ _ e => e)); have O4 := Lib.hid hown; have L4 := Lib.hid (L3.out.far hf NB.out.2.2.1); have S34 := Lib.hid hf.size; clear hr hf hown)
  obtain ⟨w5, q, hw5, hq, hb5, kq, hz5⟩ := box_new w4 27 #[.int .i64 y1, .int .i64 y2, .int .i64 y3, .int .i64 y4, .string y5, .slice A l.length c, .string y7, .bool y8]
  rw [← hw5, ← hq]
  have R5 := Lib.hid (R4.out.below hb5)
  have L5 := Lib.hid (L4.out.on hb5 (Nat.le_refl _))
  have F5 := Lib.hid (F4.out.call hb5)
  have BQ5 := Lib.hid kq
  have O5 := Lib.hid (own_below O4.out hb5)
  have GQ : Hid (g ≠ q ∧ p ≠ q ∧ b ≠ q ∧ w.heap.size ≤ q ∧ q < w5.heap.size ∧ 0 ≠ q) := Lib.hid (by have h1 := GZ.out; have h2 := NB.out; have h3 := F4.out.size; have h4 := B0.out.size; omega)
  clear hw5 hq hb5 kq hz5
  obtain ⟨v5, u5, hB5, ⟨A5, c5, rfl, -, -⟩, -, -, hE5, -⟩ := R5.out
  have d0 := hB5.cell 0
  have d1 := hB5.cell 1
  simp only [List.getElem?_toArray, List.getElem?_cons_succ, List.getElem?_cons_zero] at d0 d1
  rw [show r2.items.length = 0 from by rw [HI.out]; rfl] at d0
  go_upto_region 8 with (fail)
  clear d0 d1 hB5 hE5
  have R6 := R5
  have F6 := F5
  have L6 := L5
  have BQ6 := BQ5
  have O6 := O5
  obtain ⟨w7, m, hw7, hm, hb7, km, hz7⟩ := box_new w5 24 #[.int .i64 0]
  go_upto_region 9 with (fail)
  rw [← hw7, ← hm]
  have R7 := Lib.hid (R6.out.below hb7)
  have L7 := Lib.hid (L6.out.on hb7 (Nat.le_refl _))
  have F7 := Lib.hid (F6.out.call hb7)
  have BM7 := Lib.hid km
  have BQ7 := Lib.hid (BQ6.out.below hb7)
  have O7 := Lib.hid (own_below O6.out hb7)
  have GM : Hid (g ≠ m ∧ p ≠ m ∧ b ≠ m ∧ q ≠ m ∧ w.heap.size ≤ m ∧ m < w7.heap.size ∧ 0 ≠ m) := Lib.hid (by have h1 := GZ.out; have h2 := NB.out; have h3 := F6.out.size; have h4 := B0.out.size; have h5 := BQ6.out.lt; omega)
  clear hw7 hm hb7 km hz7
  have BG7 := Lib.hid (BG1.out.far F7.out (fun e => NB.out.1 e.symm))
  have BP7 := Lib.hid (BP1.out.far F7.out (fun e => NB.out.2.1 e.symm))
  have B7 := Lib.hid (B1.out.trans (F7.out.below (B := w.heap.size) B1.out.size (fun i e => by rw [e]; exact Nat.le_trans B0.out.size NB.out.2.2.2.1)))
  obtain ⟨v7, u7, hB7, -, -, -, hE7, -⟩ := R7.out
  have d1 := hB7.cell 1
  simp only [List.getElem?_toArray, List.getElem?_cons_succ, List.getElem?_cons_zero] at d1
  obtain rfl : u7 = .nilIface := by
    rcases hE7 with ⟨_, h⟩ | ⟨h1, _⟩
    · exact h
    · rw [HB.out] at h1; cases h1
  have c0 := BQ7.out.cell 0
  have c1 := BQ7.out.cell 1
  have c2 := BQ7.out.cell 2
  have c3 := BQ7.out.cell 3
  have c4 := BQ7.out.cell 4
  have c5 := BQ7.out.cell 5
  have c6 := BQ7.out.cell 6
  have c7 := BQ7.out.cell 7
  simp only [List.getElem?_toArray, List.getElem?_cons_succ, List.getElem?_cons_zero] at c0 c1 c2 c3 c4 c5 c6 c7
  have PU := Lib.hid (putReply_any (r := ⟨y1, y2, y3, y4, y5, l, y7, y8⟩) (Es.of_own O7.out))
  unfold cellR at PU
  rw [hv] at PU
  simp only [if_true] at PU
  rw [hp] at PU
  clear hv hp hB7 hE7
  go_upto_region 11 with (go_at_call 68; refine (as_nil _ _).mono ?_; rintro e w8 ⟨rfl, rfl⟩)
  go_upto_region 14 with (go_at_call 9; refine PU.out.mono ?_; rintro e w8 ⟨rfl, hb⟩; have BH := Lib.hid hb; clear hb)
  clear c0 c1 c2 c3 c4 c5 c6 c7 d1
  have BX8 := Lib.hid (BQ7.out.below BH.out)
  have BG8 := Lib.hid (BG7.out.below BH.out)
  have B8 := Lib.hid (B7.out.trans (BH.out.mono B7.out.size))
  have c0 := BX8.out.cell 0
  have k0 := BG8.out.cell 0
  have f0 := BG8.out.frozen 0
  have c1 := BX8.out.cell 1
  have k1 := BG8.out.cell 1
  have f1 := BG8.out.frozen 1
  have c2 := BX8.out.cell 2
  have k2 := BG8.out.cell 2
  have f2 := BG8.out.frozen 2
  have c3 := BX8.out.cell 3
  have k3 := BG8.out.cell 3
  have f3 := BG8.out.frozen 3
  have c4 := BX8.out.cell 4
  have k4 := BG8.out.cell 4
  have f4 := BG8.out.frozen 4
  have c5 := BX8.out.cell 5
  have k5 := BG8.out.cell 5
  have f5 := BG8.out.frozen 5
  have c6 := BX8.out.cell 6
  have k6 := BG8.out.cell 6
  have f6 := BG8.out.frozen 6
  have c7 := BX8.out.cell 7
  have k7 := BG8.out.cell 7
  have f7 := BG8.out.frozen 7
  simp only [List.getElem?_toArray, List.getElem?_cons_succ, List.getElem?_cons_zero] at c0 k0 c1 k1 c2 k2 c3 k3 c4 k4 c5 k5 c6 k6 c7 k7
  go_wp2_with fail
  have h5 : Blk ((((((((w8.setCell ⟨g, 0, none⟩ (.int .i64 y1)).setCell ⟨g, 1, none⟩ (.int .i64 y2)).setCell ⟨g, 2, none⟩ (.int .i64 y3)).setCell ⟨g, 3, none⟩ (.int .i64 y4)).setCell ⟨g, 4, none⟩ (.string y5)).setCell ⟨g, 5, none⟩ (.slice A l.length c)).setCell ⟨g, 6, none⟩ (.string y7)).setCell ⟨g, 7, none⟩ (.bool y8)) g 27 [(.int .i64 y1 : Value), (.int .i64 y2 : Value), (.int .i64 y3 : Value), (.int .i64 y4 : Value), (.string y5 : Value), (.slice A l.length c : Value), (.string y7 : Value), (.bool y8 : Value)].toArray := ((((((((BG8.out).set 0 _).set 1 _).set 2 _).set 3 _).set 4 _).set 5 _).set 6 _).set 7 _
  have f5 : Far (fun i => i = g) w8 ((((((((w8.setCell ⟨g, 0, none⟩ (.int .i64 y1)).setCell ⟨g, 1, none⟩ (.int .i64 y2)).setCell ⟨g, 2, none⟩ (.int .i64 y3)).setCell ⟨g, 3, none⟩ (.int .i64 y4)).setCell ⟨g, 4, none⟩ (.string y5)).setCell ⟨g, 5, none⟩ (.slice A l.length c)).setCell ⟨g, 6, none⟩ (.string y7)).setCell ⟨g, 7, none⟩ (.bool y8)) := (((((((set_far _ _ _ _).trans (set_far _ _ _ _) (fun _ _ e => e)).trans (set_far _ _ _ _) (fun _ _ e => e)).trans (set_far _ _ _ _) (fun _ _ e => e)).trans (set_far _ _ _ _) (fun _ _ e => e)).trans (set_far _ _ _ _) (fun _ _ e => e)).trans (set_far _ _ _ _) (fun _ _ e => e)).trans (set_far _ _ _ _) (fun _ _ e => e)
  refine bodyPost_ret (results_b2 rfl isAggR sizeR _ _ g rfl rfl h5 rfl) rfl ?_
  have BZ := B8.out.trans (f5.below (B := w.heap.size) B8.out.size (fun i e => by rw [e]; exact GZ.out.2.2.1))
  exact ⟨_, rfl, row_mono (own_far (own_below O7.out BH.out) f5 (fun i hi e => by have h1 := (O4.out.lt i hi).1; have h2 := F3.out.size; have h3 := NB.out; have h4 := GZ.out; omega)) (Nat.le_trans B1.out.size F3.out.size), BZ⟩
/-- read. -/
theorem readR_any (s : ByteArray) (w : World) (hs : s.size ≤ 999999) (hl : Laid2 w) :
    Calls Tryz.prog 50 #[.string s, .int .i64 1, .func (.func 51) #[] #[], .func (.func 9) #[] #[]] w fun e w' => ∃ vl, e = .returned (.tuple #[.agg (cellR ((getR s).getD zeroR) vl).toArray, .int .i64 (if (getR s).isSome then 0 else 2)]) ∧ w'.ownsRow w.heap.size 52 2 vl ((getR s).getD zeroR).entries.length (flatE ((getR s).getD zeroR).entries) ∧ Below w.heap.size w w' := by
  obtain ⟨⟨kv, rk⟩, hk⟩ : ∃ z, z = rdNum (newR s) := ⟨_, rfl⟩
  have hbad : ∀ r : Rd, r.bad = true → (repR r).2.bad = true := fun _ h => repR_bad h
  by_cases hkv : kv = 1
  · obtain ⟨⟨⟨y1, y2, y3, y4, y5, l, y7, y8⟩, r2⟩, hx⟩ : ∃ z, z = repR ⟨rk.items, rk.bad⟩ := ⟨_, rfl⟩
    have hG : getR s = if r2.bad = false ∧ r2.items = [] ∧ validR ⟨y1, y2, y3, y4, y5, l, y7, y8⟩ = true ∧ putR ⟨y1, y2, y3, y4, y5, l, y7, y8⟩ = s then some ⟨y1, y2, y3, y4, y5, l, y7, y8⟩ else none := by
      unfold getR Frm.read
      simp only [← hk, hkv, ne_eq, not_true_eq_false, decide_false, Bool.or_false, ← hx]
    by_cases hi : r2.items = []
    · rcases hb : r2.bad with _ | _
      · rcases hv : validR ⟨y1, y2, y3, y4, y5, l, y7, y8⟩ with _ | _
        · rw [hG, if_neg (fun h => by rw [hv] at h; cases h.2.2.1)]
          exact readR_e hs hl hk hkv hx hi hb hv
        · by_cases hp : putR ⟨y1, y2, y3, y4, y5, l, y7, y8⟩ = s
          · rw [hG, if_pos ⟨hb, hi, hv, hp⟩]
            exact readR_g hs hl hk hkv hx hi hb hv hp
          · rw [hG, if_neg (fun h => hp h.2.2.2)]
            exact readR_f hs hl hk hkv hx hi hb hv hp
      · rw [hG, if_neg (fun h => by rw [hb] at h; cases h.1)]
        exact readR_d hs hl hk hkv hx hi hb
    · rw [hG, if_neg (fun h => hi h.2.1)]
      exact readR_c hs hl hk hkv hx (List.length_pos_iff.2 hi)
  · obtain ⟨⟨⟨y1, y2, y3, y4, y5, l, y7, y8⟩, r2⟩, hx⟩ : ∃ z, z = repR ⟨rk.items, true⟩ := ⟨_, rfl⟩
    have hb : r2.bad = true := by have := hbad ⟨rk.items, true⟩ rfl; rw [← hx] at this; exact this
    have hG : getR s = none := by
      unfold getR Frm.read
      simp only [← hk, ne_eq, hkv, not_false_eq_true, decide_true, Bool.or_true, ← hx]
      rw [if_neg (fun h => by rw [hb] at h; cases h.1)]
    rw [hG]
    by_cases hi : r2.items = []
    · exact readR_b hs hl hk hkv hx hi hb
    · exact readR_a hs hl hk hkv hx (List.length_pos_iff.2 hi)
end Go.Proofs.YtlbebdkockejcaaGreatDoor
