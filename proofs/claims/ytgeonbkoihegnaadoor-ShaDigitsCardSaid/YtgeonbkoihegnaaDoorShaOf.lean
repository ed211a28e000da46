import Derived.Test.YtgeonbkoihegnaaDoorShaSum2
import Derived.Lib.HexFns
namespace Go.Proofs.Sha
/-- Texts, one behind the other. -/
def cat (ps : List ByteArray) : List UInt8 := (ps.map fun p => p.data.toList).flatten
theorem cat_snoc (ps : List ByteArray) (p : ByteArray) : cat (ps ++ [p]) = cat ps ++ p.data.toList := by simp [cat]
end Go.Proofs.Sha
namespace Go.Proofs.YtgeonbkoihegnaaDoor
open Go.RowKit
theorem ofNat_add (a b : Nat) : UInt64.ofNat a + UInt64.ofNat b = UInt64.ofNat (a + b) := by simp
set_option maxRecDepth 100000 in
set_option maxHeartbeats 1000000 in
/-- sha.Of: the hash of texts, one behind the other. -/
theorem of_any (pb po cap : Nat) (ps : List ByteArray) (w : World) (hl : Laid w) (hpb : pb < w.heap.size) (hps : ∀ p ∈ ps, p.size ≤ 1048576) (hn : ps.length ≤ 1048576)
    (hc : ∀ i, i < ps.length → w.cell? ⟨pb, po + i, none⟩ = some (.string (ps.getD i ByteArray.empty))) :
    Calls Tryd.prog 21 #[.slice (some ⟨pb, po, none⟩) ps.length cap] w fun e w' => e = .returned (.string (Nib.bs (Sha.sum (Sha.cat ps)))) ∧ Below w.heap.size w w' := by
  have hw1 : 1 < w.heap.size := by obtain ⟨_, ⟨t1, f1, e1⟩⟩ := hl; exact (Array.getElem?_eq_some_iff.1 e1).1
  have HC : Hid (∀ i, i < ps.length → w.cell? ⟨pb, po + i, none⟩ = some (.string (ps.getD i ByteArray.empty))) := hc
  have HPS : Hid (∀ p ∈ ps, p.size ≤ 1048576) := hps
  have HL := Lib.hid hl
  obtain ⟨n, hnn⟩ : ∃ n, n = ps.length := ⟨_, rfl⟩
  rw [← hnn] at hn HC
  rw [← hnn]
  have HNN := Lib.hid hnn
  clear hc hps hl hnn
  go_enter Tryd.func21, Tryd.ntmps21
  go_wp2_with fail
  refine (new_any _ HL.out).mono ?_
  rintro e w1 ⟨rfl, h1, b1⟩
  obtain ⟨g, hg⟩ : ∃ g, g = w.heap.size := ⟨_, rfl⟩
  rw [← hg] at h1 b1 hpb hw1
  rw [← hg]
  have HG := Lib.hid hg
  have H1 := Lib.hid h1
  have B1 : Hid (Bl g w w1) := ⟨b1, Nat.le_of_lt h1.lt⟩
  have L1 := Lib.hid (HL.out.below hw1 b1)
  clear h1 b1 hg
  go_wp2_with fail
  go_loopw [9] (fun vi wr => ∃ k : Nat, k ≤ n ∧ vi = .int .i64 k ∧ Hid (Hs g (Sha.cat (ps.take k)) (UInt64.ofNat (Sha.cat (ps.take k)).length) wr) ∧ Hid (w1.grownBy wr (some g))) (fun vi _ => n - (intOf vi).toNat)
  case atStart => exact ⟨0, Nat.zero_le _, rfl, H1.out, World.grownBy.refl _ _⟩
  case round =>
    obtain ⟨k, hk, rfl, HK, GK⟩ := hrel
    by_cases hlt : k < n
    · obtain ⟨p, hp⟩ : ∃ p, p = ps.getD k ByteArray.empty := ⟨_, rfl⟩
      have hcell : wr.cell? ⟨pb, po + k, none⟩ = some (.string p) := by
        rw [hp]
        refine GK.out.cell ((B1.out.1.cell (p := ⟨pb, po + k, none⟩) hpb).trans (HC.out k hlt)) (by simp; omega)
      have hkl : k < ps.length := by rw [← HNN.out]; exact hlt
      have hpsz : p.size ≤ 1048576 := HPS.out p (by rw [hp]; simp [List.getD, hkl])
      have HT : Hid (ps.take (k + 1) = ps.take k ++ [p]) := by
        have : ps.take (k + 1) = ps.take k ++ [p] := by rw [List.take_succ_eq_append_getElem hkl, hp]; simp [List.getD, hkl]
        exact this
      clear hp hkl
      go_wp2_with fail
      refine (write_any g _ _ p _ (L1.out.grown hw1 GK.out) hw1 hpsz HK.out).mono ?_
      rintro e w2 ⟨rfl, h2, g2⟩
      have H2 := Lib.hid h2
      have G2 := Lib.hid g2
      clear h2 g2
      go_wp2_with fail
      go_roundw
      case rel =>
        refine ⟨k + 1, by omega, by go_num, ?_, GK.out.trans G2.out⟩
        rw [HT.out, Sha.cat_snoc, List.length_append, ← ofNat_add, Nib.len_of]
        exact H2.out
      case measure => simp [intOf]; omega
    · have hk2 : k = n := by omega
      subst hk2
      go_wp2_with fail
      refine (sum_any g _ _ (L1.out.grown hw1 GK.out) hw1 HK.out).mono ?_
      rintro e w2 ⟨rfl, b2⟩
      go_wp2_with fail
      go_ret
      refine ⟨ret_string ?_, ?_⟩
      · rw [HNN.out, List.take_length]
      · rw [← HG.out]
        exact ((B1.out.grown GK.out).call b2).1
theorem take_pair (p : List UInt8) (n : Nat) (a b : UInt8) (h1 : p[n]? = some a) (h2 : p[n + 1]? = some b) : p.take (n + 2) = p.take n ++ [a, b] := by
  obtain ⟨l1, e1⟩ := List.getElem?_eq_some_iff.1 h1
  obtain ⟨l2, e2⟩ := List.getElem?_eq_some_iff.1 h2
  rw [show n + 2 = (n + 1) + 1 from rfl, List.take_succ_eq_append_getElem l2, List.take_succ_eq_append_getElem l1, e1, e2]
  simp
/-- 'append' within the capacity, as a step of a region that draws. -/
theorem step_append_fits {ops : Array Oper} {o : Oper} {a : Act} {w : World} {K : Act → World → Prop} {Q : Exit → Act → World → Prop} {E : Prop}
    (hg : o.guard = none) (s x : Operand) (t : TypeId) (hop : o.op = Op.call { callee := Callee.builtin Builtin.append, args := #[s, x], argTypes := #[t, t] })
    (base : Nat) (e : TypeId) (i : TypeInfo) (size : Nat) (h1 : Tryd.prog.underlying t = some (.slice e)) (h2 : Tryd.prog.info? e = some i) (h4 : i.size = size)
    (g k cap : Nat) (xs : List Value) (hs : a.eval s = .slice (some ⟨g, 0, none⟩) k cap) (hown : w.ownsRow base e size (.slice (some ⟨g, 0, none⟩) k cap) k xs) (ad : Addr) (m c : Nat) (news : List Value) (hx : a.eval x = .slice (some ad) m c) (hn : news.length = m * size)
    (hc : ∀ j u, news[j]? = some u → w.cell? (ad.add j) = some u) (h1c : ∀ u ∈ news, u.oneCell' = true) (b1 : k + m ≤ cap)
    (hK : ∀ w', w'.ownsRow base e size (.slice (some ⟨g, 0, none⟩) (k + m) cap) (k + m) (xs ++ news) → w.grownBy w' (some g) → K (a.put o.dst (.slice (some ⟨g, 0, none⟩) (k + m) cap)) w') :
    if Region.wanted o (yielded ops a.tmps) = true then Oper.wp Tryd.prog o a w K Q else E := by
  have hw : Region.wanted o (yielded ops a.tmps) = true := by simp [Region.wanted, hg]
  rw [if_pos hw]
  obtain ⟨w', hrun, r1, r2⟩ := run_append_fits (P := Tryd.prog) w base t o.type e i size h1 h2 h4 g k cap xs hown ad m c news hn hc h1c b1
  unfold Oper.wp
  simp [execOp, hop, resolve, invoke, builtin, hs, hx, hrun, Result.andThen]
  exact hK w' r1 r2
theorem digit_at (n : Int) (k : IntKind) (h0 : 0 ≤ n) (h1 : n < 16) (W : World) : (Instr.index 9 (.string ⟨#[48, 49, 50, 51, 52, 53, 54, 55, 56, 57, 97, 98, 99, 100, 101, 102]⟩) (.int k n)).run Tryd.prog W = .ok (.int .u8 ((Lib.Hx.digit n.toNat).toNat : Int)) W := by
  have h := run_index_string (P := Tryd.prog) W 9 Lib.Hx.tab k n Tryd.underlying9
  have hs : Lib.Hx.tab.size = 16 := by decide
  rw [dif_pos ⟨h0, by rw [hs]; exact_mod_cast h1⟩] at h
  refine h.trans ?_
  have : n.toNat < Lib.Hx.tab.size := by rw [hs]; omega
  have e : Lib.Hx.tab[n.toNat] = Lib.Hx.digit n.toNat := by
    unfold Lib.Hx.digit
    rw [← byte_get _ _ this, List.getElem?_eq_getElem (by simpa using this)]
    rfl
  rw [e]
set_option maxRecDepth 100000 in
set_option maxHeartbeats 1000000 in
/-- sha.Hex: two digits of each byte. -/
theorem hex_any (s : ByteArray) (w : World) (hs : s.size ≤ 1048576) :
    Calls Tryd.prog 22 #[.string s] w fun e w' => e = .returned (.string (Nib.bs (Lib.Hx.encode s.data.toList))) ∧ Below w.heap.size w w' := by
  obtain ⟨p, hp⟩ : ∃ p, p = Lib.Hx.encode s.data.toList := ⟨_, rfl⟩
  rw [← hp]
  have HP := Lib.hid hp
  clear hp
  obtain ⟨i0, hi, hz0, hz1, hz2⟩ := info_parts infoU8
  go_enter Tryd.func22, Tryd.ntmps22
  go_wp2_with (at_make; refine wpList_make_own _ rfl _ _ 46 rfl w.heap.size 5 i0 (.int .u8 0) 1 Tryd.underlying46 hi hz0 hz1 .i64 .i64 (2 * (s.size : Int)) (2 * s.size) rfl rfl (by omega) (by rw [hz2]; omega) (by unfold maxLen; omega) (Nat.le_refl _) ?_; intro w1 own1 gr1; have OWN1 := Lib.hid own1; have GR1 := Lib.hid gr1; clear own1 gr1)
  obtain ⟨N, hN⟩ : ∃ N, N = w.heap.size := ⟨_, rfl⟩
  rw [← hN]
  have HN := Lib.hid hN
  go_loopw [3, 11] (fun v3 vi wr => ∃ k : Nat, k ≤ s.size ∧ vi = .int .i64 k ∧ v3 = .slice (some ⟨N, 0, none⟩) (2 * k) (2 * s.size) ∧ Hid (wr.ownsRow N 5 1 (.slice (some ⟨N, 0, none⟩) (2 * k) (2 * s.size)) (2 * k) ((p.take (2 * k)).map fun b => .int .u8 (b.toNat : Int))) ∧ Hid (Bl N w wr)) (fun _ vi _ => s.size - (intOf vi).toNat)
  case atStart => 
    refine ⟨0, Nat.zero_le _, rfl, rfl, ?_, ?_⟩
    · have := OWN1.out
      rw [← hN] at this
      exact this
    · rw [hN]
      exact (Bl.start w).grown' GR1.out
  case round =>
    clear hN
    obtain ⟨k, hk, rfl, rfl, OWK, BK⟩ := hrel
    by_cases hlt : k < s.size
    · obtain ⟨x, hx⟩ : ∃ x, x = s[k] := ⟨_, rfl⟩
      have hx0 : (0 : Int) ≤ (x.toNat : Int) := by omega
      have hx1 : (x.toNat : Int) < 256 := by have := x.toNat_lt; omega
      have hsx : s[k] = x := hx.symm
      have hd1 := digit_at ((x.toNat : Int) / 16) .u8 (by omega) (by omega)
      have hand : bits BinOp.and IntKind.u8 (x.toNat : Int) 15 = (x.toNat : Int) % 16 := u8_and15 _ hx0 hx1
      have hd2 := digit_at ((x.toNat : Int) % 16) .u8 (by omega) (by omega)
      have EP : Hid (p.take (2 * (k + 1)) = p.take (2 * k) ++ [Lib.Hx.digit (x.toNat / 16), Lib.Hx.digit (x.toNat % 16)]) := by
        have h := Lib.Hx.encode_at s.data.toList k x (by rw [List.getElem?_eq_getElem (by simpa using hlt), byte_get s k hlt, hsx])
        rw [← HP.out] at h
        have := take_pair p (2 * k) _ _ h.1 h.2
        rw [show 2 * (k + 1) = 2 * k + 2 by omega]
        exact this
      clear hx
      go_wp2_with fail
      have hone : ∀ u ∈ ([.int .u8 ((Lib.Hx.digit (x.toNat / 16)).toNat : Int), .int .u8 ((Lib.Hx.digit (x.toNat % 16)).toNat : Int)] : List Value), u.oneCell' = true := by
        intro u hu
        simp at hu
        rcases hu with rfl | rfl <;> rfl
      have HONE := Lib.hid hone
      clear hone
      go_region_law (refine step_append_fits rfl (.tmp 14) (.tmp 25) 46 rfl N 5 i0 1 Tryd.underlying46 hi hz1 N (2 * k) (2 * s.size) _ rfl (by exact OWK.out.alloc _) ⟨wr.heap.size, 0, none⟩ 2 2 [.int .u8 ((Lib.Hx.digit (x.toNat / 16)).toNat : Int), .int .u8 ((Lib.Hx.digit (x.toNat % 16)).toNat : Int)] rfl rfl (by exact cells_new wr _ _) HONE.out (by omega) ?_; intro w7 own7 gr7; have OWN7 := Lib.hid own7; have GR7 := Lib.hid gr7; clear own7 gr7)
      all_goals go_wp2_with fail
      all_goals go_roundw
      all_goals first
        | (refine ⟨k + 1, by omega, by go_num, by rw [show 2 * (k + 1) = 2 * k + 2 by omega], ?_, ?_⟩
           · rw [EP.out, List.map_append, show 2 * (k + 1) = 2 * k + 2 by omega]
             exact OWN7.out
           · first
               | exact (BK.out.alloc _).drew.grown GR7.out
               | exact (BK.out.drew.alloc _).grown GR7.out)
        | (simp [intOf]; omega)
    · have hk2 : k = s.size := by omega
      have hcv := run_convert_bytes_arg (P := Tryd.prog) wr 46 5 Tryd.underlying46 Tryd.underlying5 N 0 (2 * k) (2 * s.size) (p.map fun b => (b.toNat : Int)) (by rw [List.length_map, HP.out, Lib.Hx.encode_length, Nib.len_of, hk2]) (fun i hi => by
        rw [Nat.zero_add, OWK.out.cellAt i (by simpa using hi)]
        have hi2 : i < p.length := by rw [HP.out, Lib.Hx.encode_length, Nib.len_of]; omega
        simp [List.getD, hi, hi2]) 9 Tryd.underlying9
      rw [strOfNums_bytes] at hcv
      have HCV := Lib.hid hcv
      clear hcv hk2
      have hcv2 := HCV.out
      go_wp2_with fail
      go_ret
      exact ⟨rfl, by rw [← HN.out]; exact BK.out.1⟩
end Go.Proofs.YtgeonbkoihegnaaDoor
