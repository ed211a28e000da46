import Derived.Test.YtgeonbkoihegnaaDoorShaSum
namespace Go.Proofs.Sha
def pad1 (m : List UInt8) : List UInt8 :=
  let m1 := m ++ [128]
  let m2 := if 56 < m1.length % 64 then m1 ++ List.replicate (64 - m1.length % 64) 0 else m1
  m2 ++ List.replicate (56 - m2.length % 64) 0
def lenByte (all : UInt64) (k : Nat) : UInt8 := ((all <<< 3) >>> UInt64.ofNat (56 - 8 * k)).toUInt8
def lenBytes (all : UInt64) : List UInt8 := (List.range 8).map (lenByte all)
def wordBytes (x : UInt32) : List UInt8 := [(x >>> 24).toUInt8, (x >>> 16).toUInt8, (x >>> 8).toUInt8, x.toUInt8]
def outBytes (ws : Nat → UInt32) : Nat → List UInt8
  | 0 => []
  | n + 1 => outBytes ws n ++ wordBytes (ws n)
/-- The hash of bytes. -/
def sum (m : List UInt8) : List UInt8 := outBytes (wordsOf (pad1 m ++ lenBytes (UInt64.ofNat m.length))) 8
end Go.Proofs.Sha
namespace Go.Proofs.YtgeonbkoihegnaaDoor
open Go.RowKit
theorem Hs.of_block {g : Nat} {m : List UInt8} {all : UInt64} {w w' : World} (h : Hs g m all w) (e : w'.heap[g]? = w.heap[g]?) : Hs g m all w' := by
  obtain ⟨b, hr, hb⟩ := h
  exact ⟨b, hr.of_block e, hb⟩
theorem Hs.lt {g : Nat} {m : List UInt8} {all : UInt64} {w : World} (h : Hs g m all w) : g < w.heap.size := by
  obtain ⟨b, hr, hb⟩ := h
  exact hr.lt
theorem Laid.below {w w' : World} (h : Laid w) {B : Nat} (hB : 1 < B) (hw : Below B w w') : Laid w' := by
  obtain ⟨⟨t0, f0, e0⟩, ⟨t1, f1, e1⟩⟩ := h
  exact ⟨⟨t0, f0, by rw [hw.block 0 (by omega)]; exact e0⟩, ⟨t1, f1, by rw [hw.block 1 (by omega)]; exact e1⟩⟩
theorem blank64 (g : Nat) (m : List UInt8) (al : UInt64) (w : World) (h : Hs g m al w) :
    Calls Tryd.prog 36 #[.pointer (some ⟨g, 0, none⟩), .int .i64 64] w fun e w' => e = .returned (.tuple #[]) ∧ w.grownBy w' (some g) ∧ (∃ b, w'.rowIs g 68 74 (hashF (Sha.wordsOf m) b 64 al) ∧ Sha.wordsOf (m ++ List.replicate (64 - m.length % 64) 0) = Sha.compress (Sha.wordsOf m) b) := by
  obtain ⟨b, hr, hb⟩ := h
  refine (blank_any g _ b _ 64 al w (by omega) (by omega) (by omega) hr).mono ?_
  rintro e w' ⟨rfl, hr', hg⟩
  exact ⟨rfl, hg, _, hr', (Sha.tail_whole m (List.replicate (64 - m.length % 64) 0) b hb (by rw [List.length_replicate]; omega)).1⟩
theorem blank56 (g : Nat) (m : List UInt8) (al : UInt64) (w : World) (h : Hs g m al w) (hm : m.length % 64 ≤ 56) :
    Calls Tryd.prog 36 #[.pointer (some ⟨g, 0, none⟩), .int .i64 56] w fun e w' => e = .returned (.tuple #[]) ∧ w.grownBy w' (some g) ∧ Hs g (m ++ List.replicate (56 - m.length % 64) 0) al w' ∧ (m ++ List.replicate (56 - m.length % 64) 0).length % 64 = 56 := by
  obtain ⟨b, hr, hb⟩ := h
  refine (blank_any g _ b _ 56 al w (by omega) (by omega) (by omega) hr).mono ?_
  rintro e w' ⟨rfl, hr', hg⟩
  obtain ⟨t1, t2, t3⟩ := Sha.tail_part m (List.replicate (56 - m.length % 64) 0) b hb (by rw [List.length_replicate]; omega)
  rw [List.length_replicate] at t3
  refine ⟨rfl, hg, ⟨_, ?_, t1⟩, by rw [t3]; omega⟩
  rw [t2, t3, show m.length % 64 + (56 - m.length % 64) = 56 by omega]
  exact hr'
theorem lay_nil (b : Nat → UInt8) (u : Nat) : Sha.lay b u [] = b := by
  funext i
  unfold Sha.lay
  rw [if_neg (by simp)]
theorem lay_snoc (b : Nat → UInt8) (u : Nat) (t : List UInt8) (x : UInt8) : Sha.lay (Sha.lay b u t) (u + t.length) [x] = Sha.lay b u (t ++ [x]) := by
  funext i
  unfold Sha.lay
  rw [List.length_append]
  simp only [List.length_cons, List.length_nil]
  by_cases h1 : u + t.length ≤ i ∧ i < u + t.length + (0 + 1)
  · rw [if_pos h1, if_pos (by omega)]
    simp only [List.getD_eq_getElem?_getD]
    rw [List.getElem?_append_right (by omega), show i - u - t.length = i - (u + t.length) by omega]
  · rw [if_neg h1]
    by_cases h2 : u ≤ i ∧ i < u + t.length
    · rw [if_pos h2, if_pos (by omega)]
      simp only [List.getD_eq_getElem?_getD]
      rw [List.getElem?_append_left (by omega)]
    · rw [if_neg h2, if_neg (by omega)]
theorem len_take (all : UInt64) (k : Nat) (hk : k < 8) : (Sha.lenBytes all).take (k + 1) = (Sha.lenBytes all).take k ++ [Sha.lenByte all k] := by
  rw [List.take_succ_eq_append_getElem (by simpa [Sha.lenBytes] using hk)]
  simp [Sha.lenBytes]
theorem len_len (all : UInt64) (k : Nat) (hk : k ≤ 8) : ((Sha.lenBytes all).take k).length = k := by
  simp [Sha.lenBytes]; omega
theorem wrap_u64 (n : Int) : IntKind.u64.wrap n = n % 18446744073709551616 := by simp [IntKind.wrap, IntKind.bits, IntKind.signed]
theorem grown_drew {w w' : World} {r : Option Nat} (h : w.grownBy w' r) : w.grownBy w'.drew r := h.trans ⟨rfl, rfl, rfl, Nat.le_refl _, fun _ _ _ => rfl⟩
theorem len_nat (all : UInt64) (k : Nat) : IntKind.u64.wrap ((all.toNat : Int) * 8) / 2 ^ (56 - 8 * k) % 256 = ((Sha.lenByte all k).toNat : Int) := by
  have h56 : 56 - 8 * k < 64 := by omega
  have e1 : IntKind.u64.wrap ((all.toNat : Int) * 8) = ((all <<< 3).toNat : Int) := by
    have e3 : (3 : UInt64).toNat % 64 = 3 := by decide
    rw [UInt64.toNat_shiftLeft, e3, Nat.shiftLeft_eq, wrap_u64]
    omega
  rw [e1]
  unfold Sha.lenByte
  rw [UInt64.toNat_toUInt8, UInt64.toNat_shiftRight, UInt64.toNat_ofNat_of_lt' (Nat.lt_trans h56 (by decide)), Nat.mod_eq_of_lt h56, Nat.shiftRight_eq_div_pow]
  have e2 : ((2 ^ (56 - 8 * k) : Nat) : Int) = 2 ^ (56 - 8 * k) := Int.natCast_pow _ _
  rw [← e2, ← Int.natCast_ediv, show (256 : Int) = ((256 : Nat) : Int) from rfl, ← Int.natCast_emod]
theorem word_vals (x : UInt32) : (Sha.wordBytes x).map (fun b => Value.int .u8 (b.toNat : Int)) = [.int .u8 ((x.toNat : Int) / 16777216 % 256), .int .u8 ((x.toNat : Int) / 65536 % 256), .int .u8 ((x.toNat : Int) / 256 % 256), .int .u8 ((x.toNat : Int) % 256)] := by
  have e1 := Sha.shr_nat x 24 (by decide)
  have e2 := Sha.shr_nat x 16 (by decide)
  have e3 := Sha.shr_nat x 8 (by decide)
  have f1 : (x.toNat : Int) / (16777216 : Int) = ((x >>> 24).toNat : Int) := e1
  have f2 : (x.toNat : Int) / (65536 : Int) = ((x >>> 16).toNat : Int) := e2
  have f3 : (x.toNat : Int) / (256 : Int) = ((x >>> 8).toNat : Int) := e3
  rw [f1, f2, f3]
  simp [Sha.wordBytes]
theorem out_length (ws : Nat → UInt32) (n : Nat) : (Sha.outBytes ws n).length = 4 * n := by
  induction n with
  | zero => rfl
  | succ n ih => rw [Sha.outBytes, List.length_append, ih]; simp [Sha.wordBytes]; omega
theorem Bl.grown {B : Nat} {a b c : World} (h : Bl B a b) {g : Nat} (k : b.grownBy c (some g)) (hg : B ≤ g := by exact Nat.le_refl _) : Bl B a c := ⟨h.1.grown k h.2 (fun i hi => by cases hi; exact hg), Nat.le_trans h.2 k.size⟩
theorem Bl.grown' {B : Nat} {a b c : World} (h : Bl B a b) (k : b.grownBy c none) : Bl B a c := ⟨h.1.grown k h.2 (fun i hi => by cases hi), Nat.le_trans h.2 k.size⟩
theorem words_range (g : Nat) (t : TypeId) (ws : Nat → UInt32) (b : Nat → UInt8) (u : Nat) (all : UInt64) (w : World) (hr : w.rowIs g t 74 (hashF ws b u all)) : w.rangeAt g 0 (wordVals ws 8).toList := by
  intro j v hj
  have hlt : j < 8 := by
    rcases Nat.lt_or_ge j 8 with h | h
    · exact h
    · rw [List.getElem?_eq_none (by simpa [wordVals] using h)] at hj; cases hj
  rw [Nat.zero_add, hr.cell (by omega)]
  simp [wordVals, hlt] at hj
  subst hj
  unfold hashF
  rw [if_pos hlt]
theorem whole_hs (m : List UInt8) : (m ++ List.replicate (64 - m.length % 64) 0).length % 64 = 0 := by
  rw [List.length_append, List.length_replicate]; omega
set_option maxRecDepth 100000 in
set_option maxHeartbeats 1000000 in
theorem sum_any (g : Nat) (m : List UInt8) (w : World) (hl : Laid w) (hg1 : 1 < g) (hh : Hs g m (UInt64.ofNat m.length) w) :
    Calls Tryd.prog 25 #[.pointer (some ⟨g, 0, none⟩)] w fun e w' => e = .returned (.string (Nib.bs (Sha.sum m))) ∧ Below w.heap.size w w' := by
  have hlt := hh.lt
  obtain ⟨all, ha⟩ : ∃ all, all = UInt64.ofNat m.length := ⟨_, rfl⟩
  rw [← ha] at hh
  have HH := Lib.hid hh
  obtain ⟨b, hr, hb⟩ := hh
  have c73 := (hash_blk hr).2.2.1
  obtain ⟨c, hg, hcz, hcf⟩ := hr
  have hone : c.all (·.oneCell') = true := by
    rw [Array.all_eq_true]
    intro i hi
    have := hcf i (by omega)
    rw [Array.getElem?_eq_getElem hi] at this
    rw [Option.some.inj this]
    unfold hashF
    split
    · rfl
    · split
      · rfl
      · split <;> rfl
  have HG := Lib.hid hg
  have HC := Lib.hid hcf
  have HCZ := Lib.hid hcz
  have HO := Lib.hid hone
  have HA := Lib.hid ha
  have HL := Lib.hid hl
  have HB := Lib.hid hb
  clear hg ha hl hb hcf hcz hone
  go_enter Tryd.func25, Tryd.ntmps25
  go_wp2_with (first | (with_reducible refine wpList_load_row rfl 68 (.tmp 9) rfl g rfl 68 c (0, 0) _ HG.out Tryd.underlying68 rfl (by rw [HCZ.out]; kernel_rfl) ?_) | (with_reducible refine wpList_store_row rfl 68 (.tmp 3) (.tmp 10) rfl w.heap.size c rfl rfl 68 _ (heap_alloc_last _ _) (by rw [HCZ.out]; kernel_rfl) (by simp [HCZ.out]) HO.out ?_))
  rw [World.setRow_alloc_new]
  obtain ⟨W0, hW0⟩ : ∃ W0, W0 = w.alloc (Obj.cells c 68) := ⟨_, rfl⟩
  obtain ⟨G, hG⟩ : ∃ G, G = w.heap.size := ⟨_, rfl⟩
  have hG1 : 1 < G := by omega
  have hgG : g < G := by omega
  have h0 : Hs G m all W0 := by
    rw [hW0, hG]
    exact ⟨b, ⟨c, heap_alloc_last w _, HCZ.out, HC.out⟩, HB.out⟩
  have b0 : Bl G w W0 := by rw [hW0, hG]; exact (Bl.start w).alloc _
  have l0 : Laid W0 := HL.out.below hG1 b0.1
  have g73 : W0.cell? ⟨g, 73, none⟩ = some (.int .u64 (all.toNat : Int)) := by rw [b0.1.cell (p := ⟨g, 73, none⟩) hgG]; exact c73
  rw [← hW0, ← hG]
  have H0 := Lib.hid h0
  have B0 := Lib.hid b0
  have L0 := Lib.hid l0
  have C0 := Lib.hid g73
  have HGG := Lib.hid hG
  clear h0 b0 l0 g73 hW0 hG HG HC HCZ HO HL HB HH c73 hlt hg1
  refine (write_any G m all ⟨#[128]⟩ _ L0.out hG1 (by decide) H0.out).mono ?_
  rintro e w1 ⟨rfl, h1, g1⟩
  have h1' : Hs G (m ++ [128]) (all + 1) w1 := h1
  obtain ⟨m1, hm1⟩ : ∃ m1, m1 = m ++ [128] := ⟨_, rfl⟩
  obtain ⟨al, hal⟩ : ∃ al, al = all + 1 := ⟨_, rfl⟩
  rw [← hm1, ← hal] at h1'
  obtain ⟨u1, hu1⟩ : ∃ u1, u1 = m1.length % 64 := ⟨_, rfl⟩
  have d72 : w1.cell? ⟨G, 72, none⟩ = some (.int .i64 (u1 : Int)) := by
    obtain ⟨b1, hr1, _⟩ := h1'
    rw [hu1]
    exact (hash_blk hr1).1
  have H1 := Lib.hid h1'
  have G1 := Lib.hid g1
  have M1 := Lib.hid hm1
  have U1 := Lib.hid hu1
  clear h1 h1' g1 hm1 hal
  have hcases : 56 < u1 ∨ ¬ 56 < u1 := Decidable.em _
  rcases hcases with h56 | h56
  have hu56 : (56 : Int) < (u1 : Int) := by omega
  have H56 : Hid (56 < m1.length % 64) := by rw [← hu1]; exact h56
  clear hu1 h56
  go_wp2_with fail
  refine (blank64 G m1 al _ H1.out).mono ?_
  rintro e w2 ⟨rfl, g2, b2, r2, e2⟩
  have G2 := Lib.hid g2
  have R2 := Lib.hid r2
  have E2 := Lib.hid e2
  clear g2 r2 e2
  go_wp2_with fail
  refine (turn_any G (Sha.wordsOf m1) b2 64 al _ ((L0.out.grown hG1 G1.out).grown hG1 G2.out) hG1 R2.out).mono ?_
  rintro e w3 ⟨rfl, r3, g3⟩
  have h3 : Hs G (m1 ++ List.replicate (64 - m1.length % 64) 0) al w3 := ⟨b2, by rw [whole_hs, E2.out]; exact r3, fun i hi => by rw [whole_hs] at hi; omega⟩
  have H3 := Lib.hid h3
  have G3 := Lib.hid g3
  clear r3 g3 h3
  go_wp2_with fail
  refine (blank56 G _ al _ H3.out (by rw [whole_hs]; omega)).mono ?_
  rintro e w4 ⟨rfl, g4, h4, l4⟩
  obtain ⟨P, hP⟩ : ∃ P, P = Sha.pad1 m := ⟨_, rfl⟩
  have hP2 : (m1 ++ List.replicate (64 - m1.length % 64) 0) ++ List.replicate (56 - (m1 ++ List.replicate (64 - m1.length % 64) 0).length % 64) 0 = P := by
    have h56 := H56.out
    rw [hP, Sha.pad1, ← M1.out]
    simp only [if_pos h56]
  rw [hP2] at h4 l4
  have G4 : Hid (W0.grownBy w4 (some G)) := Lib.hid (((G1.out.trans G2.out).trans G3.out).trans g4)
  have H4 := Lib.hid h4
  have P4 := Lib.hid l4
  have HP := Lib.hid hP
  clear g4 h4 l4 hP hP2 G2 G3 E2 R2 H3 H56 hu56 M1 U1
  rotate_left
  have hu56 : ¬ (56 : Int) < (u1 : Int) := by omega
  have H56 : Hid (¬ 56 < m1.length % 64) := by rw [← hu1]; exact h56
  clear hu1 h56
  go_wp2_with fail
  refine (blank56 G m1 al _ H1.out (by have := U1.out; have := H56.out; omega)).mono ?_
  rintro e w4 ⟨rfl, g4, h4, l4⟩
  obtain ⟨P, hP⟩ : ∃ P, P = Sha.pad1 m := ⟨_, rfl⟩
  have hP2 : m1 ++ List.replicate (56 - m1.length % 64) 0 = P := by
    have h56 := H56.out
    rw [hP, Sha.pad1, ← M1.out]
    simp only [if_neg h56]
  rw [hP2] at h4 l4
  have G4 : Hid (W0.grownBy w4 (some G)) := Lib.hid (G1.out.trans g4)
  have H4 := Lib.hid h4
  have P4 := Lib.hid l4
  have HP := Lib.hid hP
  clear g4 h4 l4 hP hP2 H56 hu56 M1 U1
  all_goals
    clear d72 G1 H1 H0
    have hgG2 : g ≠ G := by omega
    go_wp2_with fail
    obtain ⟨b4, hr4, hb4⟩ := H4.out
    rw [P4.out] at hr4
    have R4 := Lib.hid hr4
    have B4 := Lib.hid hb4
    clear hr4 hb4
    go_loopw [4] (fun v wr => ∃ k : Nat, k ≤ 8 ∧ v = .int .i64 (56 - 8 * (k : Int)) ∧ Hid (wr.rowIs G 68 74 (hashF (Sha.wordsOf P) (Sha.lay b4 56 ((Sha.lenBytes all).take k)) (56 + k) al)) ∧ Hid (w4.grownBy wr (some G))) (fun v _ => (intOf v + 8).toNat)
    case atStart => exact ⟨0, Nat.zero_le _, rfl, by rw [List.take_zero, lay_nil]; exact R4.out, World.grownBy.refl _ _⟩
    case round =>
      obtain ⟨k, hk, rfl, RK, GK⟩ := hrel
      by_cases hlt : k < 8
      · obtain ⟨k72, y72, _, _⟩ := hash_blk RK.out
        have kc : wr.cell? ⟨G, 8 + (56 + k), none⟩ = some (hashF (Sha.wordsOf P) (Sha.lay b4 56 ((Sha.lenBytes all).take k)) (56 + k) al (8 + (56 + k))) := RK.out.cell (by omega)
        have kz : wr.frozen? ⟨G, 8 + (56 + k), none⟩ = false := RK.out.frozen _
        have k73 : wr.cell? ⟨g, 73, none⟩ = some (.int .u64 (all.toNat : Int)) := by
          refine GK.out.cell (G4.out.cell C0.out ?_) ?_
          · simpa using hgG2
          · simpa using hgG2
        have hge : (0 : Int) ≤ 56 - 8 * (k : Int) := by omega
        go_wp2_with fail
        go_region
        all_goals go_wp2_with fail
        all_goals go_roundw
        case rel =>
          have hb := hash_lay RK.out (56 + k) [Sha.lenByte all k] (by simp; omega)
          have e9 : Sha.lay (Sha.lay b4 56 ((Sha.lenBytes all).take k)) (56 + k) [Sha.lenByte all k] = Sha.lay b4 56 ((Sha.lenBytes all).take (k + 1)) := by
            rw [len_take all k hlt, ← lay_snoc, len_len all k hk]
          rw [e9] at hb
          refine ⟨k + 1, by omega, by congr 1; omega, ?_, grown_drew (grown_cell (grown_cell GK.out _ _) 72 _)⟩
          rw [len_nat]
          exact (hash_used hb (56 + (k + 1)) _ (by omega)).drew
        case measure => simp [intOf]; omega
      · have hk2 : k = 8 := by omega
        subst hk2
        rw [show (56 - 8 * ((8 : Nat) : Int)) = -8 from rfl]
        have LK : Laid wr := (L0.out.grown hG1 G4.out).grown hG1 GK.out
        have LKH := Lib.hid LK
        clear LK
        go_wp2_with fail
        refine (turn_any G (Sha.wordsOf P) (Sha.lay b4 56 ((Sha.lenBytes all).take 8)) (56 + 8) al _ LKH.out hG1 RK.out).mono ?_
        rintro e w5 ⟨rfl, r5, g5⟩
        have eW : Sha.wordsOf (P ++ Sha.lenBytes all) = Sha.compress (Sha.wordsOf P) (Sha.lay b4 56 ((Sha.lenBytes all).take 8)) := by
          have := (Sha.tail_whole P (Sha.lenBytes all) b4 B4.out (by rw [P4.out]; simp [Sha.lenBytes])).1
          rw [this, P4.out, List.take_of_length_le (by simp [Sha.lenBytes])]
        rw [← eW] at r5
        have B5 : Hid (Bl G w w5) := by
          have : Bl G w w5 := ⟨(B0.out.1.grown (((G4.out.trans GK.out).trans g5)) B0.out.2 (fun k hk => by cases hk; exact Nat.le_refl _)), Nat.le_trans B0.out.2 (((G4.out.trans GK.out).trans g5).size)⟩
          exact this
        obtain ⟨ws, hws⟩ : ∃ ws, ws = Sha.wordsOf (P ++ Sha.lenBytes all) := ⟨_, rfl⟩
        rw [← hws] at r5
        have R5 := Lib.hid r5
        have HWS := Lib.hid hws
        clear r5 g5 eW hws
        obtain ⟨i0, hi, hz0, hz1, hz2⟩ := info_parts infoU8
        go_wp2_with (first | (at_make; refine wpList_make_own _ rfl _ _ 46 rfl w5.heap.size 5 i0 (.int .u8 0) 1 Tryd.underlying46 hi hz0 hz1 .i64 .i64 32 32 rfl rfl rfl (by omega) (by decide) (Nat.le_refl _) ?_; intro w6 own6 gr6; have R6 := Lib.hid (R5.out.of_block (gr6.block G R5.out.lt (by simp))); have OWN6 := Lib.hid own6; have GR6 := Lib.hid gr6; clear own6 gr6) | (with_reducible refine wpList_load_mid rfl 65 (.tmp 40) rfl G 0 rfl (wordVals ws 8).toList _ (words_range G _ ws _ _ _ _ R6.out) Tryd.underlying65 rfl (by rw [Array.length_toList, size_wordVals]; kernel_rfl) ?_))
        obtain ⟨N, hN⟩ : ∃ N, N = w5.heap.size := ⟨_, rfl⟩
        rw [← hN]
        have OWN := OWN6.out
        rw [← hN] at OWN
        have OWNH := Lib.hid OWN
        have HNN := Lib.hid hN
        clear OWN hN OWN6 R6
        have len65 : Tryd.prog.underlying 65 = some (.array 8 64) := by kernel_rfl
        have HIX8 : Hid (∀ (k : Nat), k < 8 → ∀ w : World, (Instr.index 65 (.agg (wordVals ws 8)) (.int .i64 (k : Int))).run Tryd.prog w = .ok (.int .u32 ((ws k).toNat : Int)) w) := fun k hk w => index_words 65 64 8 ws len65 (fun _ => by kernel_rfl) (fun _ => by kernel_rfl) k hk w
        clear len65
        go_loopw [5, 42] (fun v5 vi wr => ∃ k : Nat, k ≤ 8 ∧ vi = .int .i64 k ∧ v5 = .slice (some ⟨N, 0, none⟩) (4 * k) 32 ∧ Hid (wr.ownsRow N 5 1 (.slice (some ⟨N, 0, none⟩) (4 * k) 32) (4 * k) ((Sha.outBytes ws k).map fun b => .int .u8 (b.toNat : Int))) ∧ Hid (Bl N w6 wr)) (fun _ vi _ => 8 - (intOf vi).toNat)
        case atStart => exact ⟨0, Nat.zero_le _, rfl, rfl, OWNH.out, ⟨Below.refl _ _, by have := GR6.out.size; have := HNN.out; omega⟩⟩
        case round =>
          obtain ⟨k, hk, rfl, rfl, OWK, BK⟩ := hrel
          by_cases hlt : k < 8
          · have hix := HIX8.out k hlt
            obtain ⟨x, hx⟩ : ∃ x, x = ws k := ⟨_, rfl⟩
            rw [← hx] at hix
            have HX := Lib.hid hx
            clear hx
            have hone : ∀ u ∈ ([.int .u8 ((x.toNat : Int) / 16777216 % 256), .int .u8 ((x.toNat : Int) / 65536 % 256), .int .u8 ((x.toNat : Int) / 256 % 256), .int .u8 ((x.toNat : Int) % 256)] : List Value), u.oneCell' = true := by
              intro u hu
              simp at hu
              rcases hu with rfl | rfl | rfl | rfl <;> rfl
            have HONE := Lib.hid hone
            have HI := Lib.hid hi
            clear hone
            go_wp2_with (at_builtin; refine wpList_append_fits _ rfl _ _ 46 rfl N 5 i0 1 Tryd.underlying46 hi hz1 N (4 * k) 32 _ rfl (OWK.out.alloc _) ⟨wr.heap.size, 0, none⟩ 4 4 [.int .u8 ((x.toNat : Int) / 16777216 % 256), .int .u8 ((x.toNat : Int) / 65536 % 256), .int .u8 ((x.toNat : Int) / 256 % 256), .int .u8 ((x.toNat : Int) % 256)] rfl rfl (cells_new wr _ _) HONE.out (by omega) ?_; intro w7 own7 gr7; have OWN7 := Lib.hid own7; have GR7 := Lib.hid gr7; clear own7 gr7)
            go_roundw
            case rel =>
              have ew : (Sha.outBytes ws (k + 1)).map (fun b => Value.int .u8 (b.toNat : Int)) = (Sha.outBytes ws k).map (fun b => Value.int .u8 (b.toNat : Int)) ++ [.int .u8 ((x.toNat : Int) / 16777216 % 256), .int .u8 ((x.toNat : Int) / 65536 % 256), .int .u8 ((x.toNat : Int) / 256 % 256), .int .u8 ((x.toNat : Int) % 256)] := by
                rw [Sha.outBytes, List.map_append, ← HX.out, word_vals]
              refine ⟨k + 1, by omega, by go_num, by rw [show 4 * (k + 1) = 4 * k + 4 by omega], ?_, (BK.out.alloc _).grown GR7.out⟩
              rw [ew, show 4 * (k + 1) = 4 * k + 4 by omega]
              exact OWN7.out
            case measure => simp [intOf]; omega
          · have hk2 : k = 8 := by omega
            subst hk2
            have hcv := run_convert_bytes_arg (P := Tryd.prog) wr 46 5 Tryd.underlying46 Tryd.underlying5 N 0 (4 * 8) 32 ((Sha.outBytes ws 8).map fun b => (b.toNat : Int)) (by rw [List.length_map, out_length]) (fun i hi => by
              rw [Nat.zero_add, OWK.out.cellAt i (by simpa using hi)]
              have hi2 : i < (Sha.outBytes ws 8).length := by rw [out_length]; exact hi
              simp [List.getD, hi2]) 9 Tryd.underlying9
            rw [strOfNums_bytes] at hcv
            have HCV := Lib.hid hcv
            clear hcv
            have hcv2 := HCV.out
            go_wp2_with fail
            go_ret
            refine ⟨ret_string ?_, ?_⟩
            · rw [HWS.out, HP.out, HA.out, Sha.sum]
            · have h6 : Bl G w w6 := B5.out.grown' GR6.out
              have hNG : G ≤ N := by have := B5.out.2; have := HNN.out; omega
              have := (h6.1.trans (BK.out.1.mono hNG))
              rw [← HGG.out]
              exact this
end Go.Proofs.YtgeonbkoihegnaaDoor
