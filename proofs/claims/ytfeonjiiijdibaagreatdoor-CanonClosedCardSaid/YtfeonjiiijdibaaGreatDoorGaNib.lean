/-
  Merged: NibPlain, NibPath, NibPack, NibPut, NibGet.
-/
import Derived.Test.YtfeonjiiijdibaaGreatDoorGaRlp
namespace Go.Proofs.Nib
/-- The nibbles of bytes. -/
def path : List UInt8 → List UInt8
  | [] => []
  | b :: r => (b / 16) :: (b % 16) :: path r
/-- Two nibbles a byte. -/
def pack : List UInt8 → List UInt8
  | a :: b :: r => (a * 16 + b) :: pack r
  | _ => []
def valid (l : List UInt8) : Bool := l.all (· ≤ 15)
def common : List UInt8 → List UInt8 → Nat
  | a :: r, b :: t => if a = b then common r t + 1 else 0
  | _, _ => 0
theorem path_length (l : List UInt8) : (path l).length = 2 * l.length := by
  induction l with
  | nil => rfl
  | cons b r ih => simp [path, ih]; omega
theorem path_at (l : List UInt8) (k : Nat) (h : k < l.length) : (path l)[2 * k]? = some (l[k] / 16) ∧ (path l)[2 * k + 1]? = some (l[k] % 16) := by
  induction l generalizing k with
  | nil => simp at h
  | cons b r ih =>
    cases k with
    | zero => simp [path]
    | succ k =>
      have := ih k (by simpa using h)
      simpa [path, show 2 * (k + 1) = 2 * k + 2 by omega] using this
theorem pack_length (l : List UInt8) : (pack l).length = l.length / 2 := by
  fun_induction pack l with
  | case1 a b r ih => simp [ih]; omega
  | case2 l h =>
    match l, h with
    | [], _ => rfl
    | [a], _ => simp
    | a :: b :: r, h => exact absurd rfl (h a b r)
theorem pack_at (l : List UInt8) (k : Nat) (h : 2 * k + 1 < l.length) : (pack l)[k]? = some (l[2 * k] * 16 + l[2 * k + 1]) := by
  induction k generalizing l with
  | zero =>
    match l, h with
    | a :: b :: r, _ => simp [pack]
  | succ k ih =>
    match l, h with
    | a :: b :: r, h =>
      have := ih r (by simp at h; omega)
      simpa [pack, show 2 * (k + 1) = 2 * k + 2 by omega, show 2 * (k + 1) + 1 = 2 * k + 1 + 2 by omega] using this
/-- What stands ahead of a path: its flag; behind that of an even path one nibble more. -/
def front (n : Nat) (leaf : Bool) : List UInt8 := if n % 2 = 1 then [(if leaf then 3 else 1)] else [(if leaf then 2 else 0), 0]
def put (l : List UInt8) (leaf : Bool) : List UInt8 := pack (front l.length leaf ++ l)
/-- The path, and whether it is of a leaf, of which bytes are the 'put'. -/
def getN : List UInt8 → Option (List UInt8 × Bool)
  | a :: r => if a = 3 then some (r, true) else if a = 1 then some (r, false) else
    match r with
    | b :: t => if a = 2 ∧ b = 0 then some (t, true) else if a = 0 ∧ b = 0 then some (t, false) else none
    | [] => none
  | [] => none
def get (l : List UInt8) : Option (List UInt8 × Bool) := getN (path l)
theorem valid_append (a b : List UInt8) : valid (a ++ b) = (valid a && valid b) := by simp [valid]
theorem path_append (a b : List UInt8) : path (a ++ b) = path a ++ path b := by
  induction a with
  | nil => rfl
  | cons x r ih => simp [path, ih]
theorem u8_div_le (b : UInt8) : b / 16 ≤ 15 := by
  rw [UInt8.le_iff_toNat_le]; simp; have := b.toNat_lt; omega
theorem u8_mod_le (b : UInt8) : b % 16 ≤ 15 := by
  rw [UInt8.le_iff_toNat_le]; simp; omega
theorem u8_join (b : UInt8) : b / 16 * 16 + b % 16 = b := by
  apply UInt8.toNat_inj.1
  simp; have := b.toNat_lt; omega
theorem valid_path (l : List UInt8) : valid (path l) = true := by
  induction l with
  | nil => rfl
  | cons b r ih => simp [path, valid, u8_div_le, u8_mod_le] at *; exact ih
theorem pack_path (l : List UInt8) : pack (path l) = l := by
  induction l with
  | nil => rfl
  | cons b r ih => simp [path, pack, u8_join, ih]
theorem valid_front (n : Nat) (leaf : Bool) : valid (front n leaf) = true := by
  unfold front
  split <;> cases leaf <;> decide
theorem front_length (n : Nat) (leaf : Bool) : (front n leaf).length = if n % 2 = 1 then 1 else 2 := by
  unfold front
  split <;> rfl
theorem put_length (l : List UInt8) (leaf : Bool) : (put l leaf).length = 1 + l.length / 2 := by
  unfold put
  rw [pack_length, List.length_append, front_length]
  split <;> omega
theorem path_inj {a b : List UInt8} (h : path a = path b) : a = b := by rw [← pack_path a, h, pack_path]
theorem common_le (a b : List UInt8) : common a b ≤ a.length ∧ common a b ≤ b.length := by
  induction a generalizing b with
  | nil => cases b <;> simp [common]
  | cons x r ih =>
    cases b with
    | nil => simp [common]
    | cons y t =>
      have := ih t
      simp only [common]
      split <;> simp <;> omega
theorem common_pre (a b : List UInt8) : common (a ++ b) a = a.length := by
  induction a with
  | nil => cases b <;> simp [common]
  | cons x r ih => simp [common, ih]
theorem common_self (a : List UInt8) : common a a = a.length := by
  have := common_pre a []
  simpa using this
theorem common_comm (a b : List UInt8) : common a b = common b a := by
  induction a generalizing b with
  | nil => cases b <;> simp [common]
  | cons x r ih =>
    cases b with
    | nil => simp [common]
    | cons y t => simp [common, ih t, eq_comm]
theorem common_take (a b : List UInt8) : a.take (common a b) = b.take (common a b) := by
  induction a generalizing b with
  | nil => cases b <;> simp [common]
  | cons x r ih =>
    cases b with
    | nil => simp [common]
    | cons y t =>
      simp only [common]
      split
      · next h => simp [h, ih t]
      · simp
theorem common_next (a b : List UInt8) (ha : common a b < a.length) (hb : common a b < b.length) : a[common a b] ≠ b[common a b] := by
  induction a generalizing b with
  | nil => simp at ha
  | cons x r ih =>
    cases b with
    | nil => simp at hb
    | cons y t =>
      by_cases h : x = y
      · subst h
        have e : common (x :: r) (x :: t) = common r t + 1 := by simp [common]
        simp only [e] at ha hb ⊢
        simpa using ih t (by simpa using ha) (by simpa using hb)
      · have e : common (x :: r) (y :: t) = 0 := by simp [common, h]
        simp only [e]
        simpa using h
/-- What 'common' is, by its three signs. -/
theorem common_is (a b : List UInt8) (n : Nat) (ha : n ≤ a.length) (hb : n ≤ b.length) (h : ∀ i (h1 : i < a.length) (h2 : i < b.length), i < n → a[i] = b[i]) (hn : n = a.length ∨ n = b.length ∨ ∃ (h1 : n < a.length) (h2 : n < b.length), a[n] ≠ b[n]) : common a b = n := by
  induction a generalizing b n with
  | nil => simp at ha; subst ha; cases b <;> simp [common]
  | cons x r ih =>
    cases b with
    | nil => simp at hb; subst hb; simp [common]
    | cons y t =>
      cases n with
      | zero =>
        rcases hn with hn | hn | ⟨h1, h2, hn⟩
        · simp at hn
        · simp at hn
        · simp at hn; simp [common, hn]
      | succ n =>
        have h0 := h 0 (by simp) (by simp) (by omega)
        simp at h0
        subst h0
        have := ih t n (by simpa using ha) (by simpa using hb) (fun i h1 h2 hi => by have := h (i + 1) (by simpa using h1) (by simpa using h2) (by omega); rwa [List.getElem_cons_succ, List.getElem_cons_succ] at this) (by
          rcases hn with hn | hn | ⟨h1, h2, hn⟩
          · left; simpa using hn
          · right; left; simpa using hn
          · right; right; exact ⟨by simpa using h1, by simpa using h2, by simpa using hn⟩)
        simp [common, this]
end Go.Proofs.Nib
namespace Go.Proofs.YtfeonjiiijdibaaGreatDoor
open Go.RowKit
set_option maxHeartbeats 400000 in
/-- nibble.Path: the path of a text. -/
theorem path_any (s : ByteArray) (w : World) (hs : s.size ≤ 70368744177664) :
    Calls Tryz.prog 69 #[.string s] w fun e w' => e = .returned (.string (Nib.bs (Nib.path s.data.toList))) ∧ Below w.heap.size w w' := by
  have hmk : ∀ w : World, (Instr.makeSlice 63 (.int .i64 (2 * (s.size : Int))) (.int .i64 (2 * (s.size : Int)))).run Tryz.prog w = .ok (.slice (some ⟨w.heap.size, 0, none⟩) (2 * s.size) (2 * s.size)) (w.alloc (.cells (madeCells #[.int .u8 0] (2 * s.size)) 5)) := fun w => by
    have h := run_make_row' (P := Tryz.prog) 63 5 (.int .u8 0) 1 Tryz.underlying63 infoU8 rfl .i64 .i64 (2 * s.size) (by omega) (by omega) w
    rwa [show ((2 * s.size : Nat) : Int) = 2 * (s.size : Int) by omega] at h
  obtain ⟨p, hp⟩ : ∃ p, p = Nib.path s.data.toList := ⟨_, rfl⟩
  have hpl : p.length = 2 * s.size := by rw [hp, Nib.path_length, Nib.len_of]
  have HP := Lib.hid hp
  have HPL := Lib.hid hpl
  rw [← hp]
  clear hp hpl
  go_enter Tryz.func69, Tryz.ntmps69
  go_wp2
  go_loopw [11] (fun vi wr => ∃ k : Nat, k ≤ s.size ∧ vi = .int .i64 k ∧ Hid (wr.rowIs w.heap.size 5 (2 * s.size) (rowOf p (2 * k))) ∧ Hid (Below w.heap.size w wr)) (fun vi _ => s.size - (intOf vi).toNat)
  case atStart => exact ⟨0, Nat.zero_le _, rfl, (World.rowIs_made w _ _ _).congr (fun j _ => rowOf_zero _ _), (Below.refl _ _).alloc (Nat.le_refl _) _⟩
  case round =>
    obtain ⟨k, hk, rfl, hrw, hbl⟩ := hrel
    by_cases hlt : k < s.size
    · have hf1 : wr.frozen? ⟨w.heap.size, 2 * k, none⟩ = false := hrw.out.frozen _
      have hc1 : wr.cell? ⟨w.heap.size, 2 * k, none⟩ = some (rowOf p (2 * k) (2 * k)) := hrw.out.cell (by omega)
      have hf2 : ∀ v, (wr.setCell ⟨w.heap.size, 2 * k, none⟩ v).frozen? ⟨w.heap.size, 2 * k + 1, none⟩ = false := fun v => (hrw.out.set _ v).frozen _
      have hc2 : ∀ v, (wr.setCell ⟨w.heap.size, 2 * k, none⟩ v).cell? ⟨w.heap.size, 2 * k + 1, none⟩ = some (rowOf p (2 * k) (2 * k + 1)) := fun v => by
        have := (hrw.out.set (2 * k) v).cell (i := 2 * k + 1) (by omega)
        rwa [if_neg (by omega)] at this
      have hf0 : wr.frozen? ⟨w.heap.size, 2 * k + 1, none⟩ = false := hrw.out.frozen _
      have hc0 : wr.cell? ⟨w.heap.size, 2 * k + 1, none⟩ = some (rowOf p (2 * k) (2 * k + 1)) := hrw.out.cell (by omega)
      have HA : Hid (p[2 * k]? = some (s[k] / 16) ∧ p[2 * k + 1]? = some (s[k] % 16)) := by
        have := Nib.path_at s.data.toList k (by simpa using hlt)
        rw [byte_get s k hlt, ← HP.out] at this
        exact this
      go_wp2
      go_region
      all_goals go_wp2
      all_goals go_roundw
      case rel =>
        refine ⟨k + 1, by omega, by go_num, ((hrw.out.set _ _).set _ _).congr (fun j _ => ?_), ((hbl.out.setCell (Nat.le_refl _) _).setCell (Nat.le_refl _) _).drew⟩
        have h256 := s[k].toNat_lt
        rw [rowOf_step p (2 * k) _ HA.out.1 _ (by simp) j, rowOf_step p (2 * k + 1) _ HA.out.2 _ (by rw [u8_and15 _ (by omega) (by omega)]; simp) j]
        rfl
      case measure => simp [intOf]; omega
    · have hk2 : k = s.size := by omega
      subst hk2
      have g := run_convert_bytes_arg (P := Tryz.prog) wr 63 5 Tryz.underlying63 Tryz.underlying5 w.heap.size 0 (2 * s.size) (2 * s.size) (p.map fun b => (b.toNat : Int)) (by rw [List.length_map, HPL.out]) (fun i hi => by
        rw [Nat.zero_add, hrw.out.cell hi, ← HPL.out, rowOf_full _ _ (by rw [HPL.out]; exact hi)]) 9 Tryz.underlying9
      rw [strOfNums_bytes] at g
      go_wp2
      go_ret
      exact ⟨rfl, hbl.out⟩
end Go.Proofs.YtfeonjiiijdibaaGreatDoor
namespace Go.Proofs.YtfeonjiiijdibaaGreatDoor
open Go.RowKit
theorem or_join (x y : UInt8) (hx : (x.toNat : Int) ≤ 15) (hy : (y.toNat : Int) ≤ 15) : bits BinOp.or IntKind.u8 ((x.toNat : Int) * 16) (y.toNat : Int) = ((x * 16 + y).toNat : Int) := by
  rw [bits_join .u8 8 (by decide) wraps_u8 4 _ _ (by omega) (by omega) (by omega) (by omega) (by omega) (by omega)]
  rw [UInt8.toNat_add, UInt8.toNat_mul]
  simp
  omega
set_option maxHeartbeats 400000 in
/-- nibble.Valid. -/
theorem valid_any (s : ByteArray) (w : World) (hs : s.size ≤ 70368744177664) :
    Calls Tryz.prog 131 #[.string s] w fun e w' => e = .returned (.bool (Nib.valid s.data.toList)) ∧ w = w' := by
  obtain ⟨r, hr⟩ : ∃ r, r = Nib.valid s.data.toList := ⟨_, rfl⟩
  rw [← hr]
  have HR := Lib.hid hr
  clear hr
  go_enter Tryz.func131, Tryz.ntmps131
  go_wp2
  go_loop [6] (fun vi => ∃ k : Nat, k ≤ s.size ∧ vi = .int .i64 k ∧ Hid (Nib.valid (s.data.toList.take k) = true)) (fun vi => s.size - (intOf vi).toNat)
  case atStart => exact ⟨0, Nat.zero_le _, rfl, rfl⟩
  case round =>
    obtain ⟨k, hk, rfl, hv⟩ := hrel
    by_cases hlt : k < s.size
    · have HT : Hid (s.data.toList.take (k + 1) = s.data.toList.take k ++ [s[k]]) := by
        rw [List.take_succ_eq_append_getElem (by simpa using hlt), byte_get s k hlt]; exact rfl
      by_cases hb : (15 : Int) < (s[k].toNat : Int)
      · have hf : r = false := by
          rw [HR.out, ← List.take_append_drop (k + 1) s.data.toList, Nib.valid_append, HT.out, Nib.valid_append]
          have : Nib.valid [s[k]] = false := by
            simp [Nib.valid, UInt8.lt_iff_toNat_lt]; omega
          rw [this]
          simp
        have HF := Lib.hid hf
        clear hf
        go_wp2
        go_ret
        exact ⟨by rw [HF.out]; rfl, rfl⟩
      · go_wp2
        go_round
        case rel =>
          have hnew : Nib.valid (s.data.toList.take (k + 1)) = true := by
            rw [HT.out, Nib.valid_append, hv.out]
            have : Nib.valid [s[k]] = true := by
              simp [Nib.valid, UInt8.le_iff_toNat_le]; omega
            rw [this]; rfl
          exact ⟨k + 1, by omega, by go_num, hnew⟩
        case measure => simp [intOf]; omega
    · have hk2 : k = s.size := by omega
      subst hk2
      go_wp2
      go_ret
      have := hv.out
      rw [List.take_of_length_le (by simp)] at this
      exact ⟨by rw [HR.out, this]; rfl, rfl⟩
set_option maxHeartbeats 400000 in
/-- nibble.Common. -/
theorem common_quiet (a b : ByteArray) (w : World) (ha : a.size ≤ 140737488355328) (hb : b.size ≤ 140737488355328) :
    Calls Tryz.prog 101 #[.string a, .string b] w fun e w' => e = .returned (.int .i64 (Nib.common a.data.toList b.data.toList : Nat)) ∧ ∃ q, w' = w.drewN q := by
  obtain ⟨r, hr⟩ : ∃ r, r = Nib.common a.data.toList b.data.toList := ⟨_, rfl⟩
  rw [← hr]
  have HR := Lib.hid hr
  clear hr
  have hcase : b.size < a.size ∨ ¬ b.size < a.size := Nat.lt_or_ge b.size a.size |>.imp id Nat.not_lt.2
  rcases hcase with hab | hab
  all_goals
    go_enter Tryz.func101, Tryz.ntmps101
    go_wp2
    go_loopw [11] (fun vi wr => ∃ k : Nat, k ≤ a.size ∧ k ≤ b.size ∧ vi = .int .i64 k ∧ Hid (∀ i (h1 : i < a.data.toList.length) (h2 : i < b.data.toList.length), i < k → a.data.toList[i] = b.data.toList[i]) ∧ Hid (∃ q, wr = w.drewN q)) (fun vi _ => a.size - (intOf vi).toNat)
    case atStart => exact ⟨0, Nat.zero_le _, Nat.zero_le _, rfl, fun i _ _ h => absurd h (Nat.not_lt_zero _), ⟨0, rfl⟩⟩
    case round =>
      obtain ⟨k, hka, hkb, rfl, hall, q, rfl⟩ := hrel
      by_cases hlt : k < a.size ∧ k < b.size
      · obtain ⟨hlta, hltb⟩ := hlt
        have ea := byte_get a k hlta
        have eb := byte_get b k hltb
        have EA := Lib.hid ea
        have EB := Lib.hid eb
        clear ea eb
        by_cases hne : a[k] = b[k]
        · have HNE := Lib.hid hne
          have hd : ((a[k].toNat : Int) != (b[k].toNat : Int)) = false := by rw [hne]; simp
          clear hne
          go_wp2
          go_quiet (fail)
          go_wp2
          go_roundw
          case rel =>
            refine ⟨k + 1, by omega, by omega, by go_num, ?_, ⟨_, rfl⟩⟩
            intro i h1 h2 hi
            by_cases hik : i = k
            · subst hik
              rw [EA.out, EB.out, HNE.out]
            · exact hall.out i h1 h2 (by omega)
          case measure => simp [intOf]; omega
        · have hd : ((a[k].toNat : Int) != (b[k].toNat : Int)) = true := by
            rw [bne_iff_ne]
            intro h
            exact hne (UInt8.toNat_inj.1 (by exact_mod_cast h))
          have HNE := Lib.hid hne
          clear hne
          go_wp2
          go_quiet (fail)
          go_wp2
          go_ret
          have hr : r = k := by
            rw [HR.out]
            exact Nib.common_is _ _ k (by simpa using hka) (by simpa using hkb) (fun i h1 h2 hi => hall.out i h1 h2 hi) (.inr (.inr ⟨by simpa using hlta, by simpa using hltb, by rw [EA.out, EB.out]; exact HNE.out⟩))
          exact ⟨by rw [hr]; rfl, ⟨_, World.drewN_drewN _ _ _⟩⟩
      · have hr : r = k := by
          rw [HR.out]
          exact Nib.common_is _ _ k (by simpa using hka) (by simpa using hkb) (fun i h1 h2 hi => hall.out i h1 h2 hi) (by simp; omega)
        have hkm : k = min a.size b.size := by omega
        have hle : a.size ≤ k ∨ b.size ≤ k := by omega
        have HRK := Lib.hid (hr.trans hkm)
        clear hr hkm
        go_wp2
        go_ret
        have hrk := HRK.out
        exact ⟨ret_int (by omega), ⟨q, rfl⟩⟩
theorem common_any (a b : ByteArray) (w : World) (ha : a.size ≤ 140737488355328) (hb : b.size ≤ 140737488355328) :
    Calls Tryz.prog 101 #[.string a, .string b] w fun e w' => e = .returned (.int .i64 (Nib.common a.data.toList b.data.toList : Nat)) ∧ Below w.heap.size w w' := by
  refine (common_quiet a b w ha hb).mono ?_
  rintro e w' ⟨rfl, q, rfl⟩
  exact ⟨rfl, below_drewN (Below.refl _ _) _⟩
/-- nibble.pack. -/
theorem pack_any (s : ByteArray) (w : World) (hs : s.size ≤ 70368744177664) (hv : Nib.valid s.data.toList = true) :
    Calls Tryz.prog 174 #[.string s] w fun e w' => e = .returned (.string (Nib.bs (Nib.pack s.data.toList))) ∧ Below w.heap.size w w' := by
  obtain ⟨c, hc⟩ : ∃ c, c = s.size / 2 := ⟨_, rfl⟩
  have hcs : c ≤ s.size := by omega
  have hmk : ∀ w : World, (Instr.makeSlice 63 (.int .i64 ((s.size : Int) / 2)) (.int .i64 ((s.size : Int) / 2))).run Tryz.prog w = .ok (.slice (some ⟨w.heap.size, 0, none⟩) c c) (w.alloc (.cells (madeCells #[.int .u8 0] c) 5)) := fun w => by
    have h := run_make_row' (P := Tryz.prog) 63 5 (.int .u8 0) 1 Tryz.underlying63 infoU8 rfl .i64 .i64 c (by omega) (by omega) w
    rwa [show ((c : Nat) : Int) = (s.size : Int) / 2 by omega] at h
  obtain ⟨p, hp⟩ : ∃ p, p = Nib.pack s.data.toList := ⟨_, rfl⟩
  have hpl : p.length = c := by rw [hp, Nib.pack_length, Nib.len_of, hc]
  have HP := Lib.hid hp
  have HPL := Lib.hid hpl
  have HC : 2 * c ≤ s.size := by omega
  have HV : Hid (Nib.valid s.data.toList = true) := hv
  rw [← hp]
  clear hp hpl hc hv
  go_enter Tryz.func174, Tryz.ntmps174
  go_wp2
  go_loopw [11] (fun vi wr => ∃ k : Nat, k ≤ c ∧ vi = .int .i64 k ∧ Hid (wr.rowIs w.heap.size 5 c (rowOf p k)) ∧ Hid (Below w.heap.size w wr)) (fun vi _ => c - (intOf vi).toNat)
  case atStart => exact ⟨0, Nat.zero_le _, rfl, (World.rowIs_made w _ _ _).congr (fun j _ => rowOf_zero _ _), (Below.refl _ _).alloc (Nat.le_refl _) _⟩
  case round =>
    obtain ⟨k, hk, rfl, hrw, hbl⟩ := hrel
    by_cases hlt : k < c
    · have hf1 : wr.frozen? ⟨w.heap.size, k, none⟩ = false := hrw.out.frozen _
      have hc1 : wr.cell? ⟨w.heap.size, k, none⟩ = some (rowOf p k k) := hrw.out.cell (by omega)
      have hi0 : 2 * k < s.size := by omega
      have hi1 : 2 * k + 1 < s.size := by omega
      have HA : Hid (p[k]? = some (s[2 * k] * 16 + s[2 * k + 1])) := by
        have := Nib.pack_at s.data.toList k (by simpa using hi1)
        rw [byte_get s _ hi0, byte_get s _ hi1, ← HP.out] at this
        exact this
      have hb0 : ((s[2 * k]).toNat : Int) ≤ 15 := by
        have := List.all_eq_true.1 HV.out (s[2 * k]) (by rw [← byte_get s _ hi0]; exact List.getElem_mem _)
        simp [UInt8.le_iff_toNat_le] at this; omega
      have hb1 : ((s[2 * k + 1]).toNat : Int) ≤ 15 := by
        have := List.all_eq_true.1 HV.out (s[2 * k + 1]) (by rw [← byte_get s _ hi1]; exact List.getElem_mem _)
        simp [UInt8.le_iff_toNat_le] at this; omega
      have hj0 : 2 * (k : Int) < (s.size : Int) := by omega
      have hj1 : 2 * (k : Int) + 1 < (s.size : Int) := by omega
      have hj2 : 0 ≤ 2 * (k : Int) + 1 := by omega
      have hj3 : 0 ≤ 2 * (k : Int) := by omega
      have n0 : (2 * (k : Int)).toNat = 2 * k := by omega
      have n1 : (2 * (k : Int) + 1).toNat = 2 * k + 1 := by omega
      have e0 : IntKind.i64.wrap (2 * (k : Int)) = 2 * (k : Int) := IntWalk.i64_in _ (by omega)
      have e1 : IntKind.i64.wrap (2 * (k : Int) + 1) = 2 * (k : Int) + 1 := IntWalk.i64_in _ (by omega)
      go_wp2
      go_region
      all_goals go_wp2
      all_goals go_roundw
      case rel => 
        refine ⟨k + 1, by omega, by go_num, (hrw.out.set _ _).congr (fun j _ => ?_), (hbl.out.setCell (Nat.le_refl _) _).drew⟩
        refine rowOf_step p k _ HA.out _ ?_ j
        rw [or_join _ _ hb0 hb1]
      case measure => simp [intOf]; omega
    · have hk2 : k = c := by omega
      subst hk2
      have g := run_convert_bytes_arg (P := Tryz.prog) wr 63 5 Tryz.underlying63 Tryz.underlying5 w.heap.size 0 k k (p.map fun b => (b.toNat : Int)) (by rw [List.length_map, HPL.out]) (fun i hi => by
        rw [Nat.zero_add, hrw.out.cell hi]
        have := rowOf_full p i (by rw [HPL.out]; exact hi)
        rw [HPL.out] at this
        exact congrArg some this) 9 Tryz.underlying9
      rw [strOfNums_bytes] at g
      go_wp2
      go_ret
      exact ⟨rfl, hbl.out⟩
end Go.Proofs.YtfeonjiiijdibaaGreatDoor
namespace Go.Proofs.YtfeonjiiijdibaaGreatDoor
open Go.RowKit
set_option maxHeartbeats 400000 in
theorem put_no (s : ByteArray) (leaf : Bool) (w : World) (hs : s.size ≤ 70368744177664) (hv : Nib.valid s.data.toList = false) :
    Calls Tryz.prog 156 #[.string s, .bool leaf] w fun e w' => e = .returned (.tuple #[.string ⟨#[]⟩, .bool false]) ∧ Below w.heap.size w w' := by
  have HV : Hid (Nib.valid s.data.toList = false) := hv
  clear hv
  go_enter Tryz.func156, Tryz.ntmps156
  go_wp2_with fail
  refine (valid_any s _ hs).mono ?_
  rintro e w' ⟨rfl, rfl⟩
  rw [HV.out]
  go_wp2_with fail
  go_ret2
  exact ⟨rfl, (Below.refl _ _).alloc (Nat.le_refl _) _⟩
theorem two_is (n : Nat) (h : ¬ n % 2 = 1) : ((n : Int) % 2 == 1) = false := by simp; omega
theorem one_is (n : Nat) (h : n % 2 = 1) : ((n : Int) % 2 == 1) = true := by simp; omega
set_option maxHeartbeats 400000 in
theorem front_any (s : ByteArray) (leaf : Bool) (a : Addr) (w : World) (hs : s.size ≤ 70368744177664) (hc : w.cell? a = some (.string s)) :
    Calls Tryz.prog 175 #[.bool leaf, .func (Fn.func 173) #[] #[.pointer (some a)]] w fun e w' => e = .returned (.string (Nib.bs (Nib.front s.size leaf))) ∧ Below w.heap.size w w' := by
  have g1 : ∀ W : World, (convert 63 9 (.slice (some ⟨W.heap.size, 0, none⟩) 1 1)).run Tryz.prog (W.alloc (.cells #[.int .u8 3] 5)) = .ok (.string (Nib.bs [3])) (W.alloc (.cells #[.int .u8 3] 5)) := fun W => conv_lit W [3]
  have g2 : ∀ W : World, (convert 63 9 (.slice (some ⟨W.heap.size, 0, none⟩) 1 1)).run Tryz.prog (W.alloc (.cells #[.int .u8 1] 5)) = .ok (.string (Nib.bs [1])) (W.alloc (.cells #[.int .u8 1] 5)) := fun W => conv_lit W [1]
  have g3 : ∀ W : World, (convert 63 9 (.slice (some ⟨W.heap.size, 0, none⟩) 2 2)).run Tryz.prog (W.alloc (.cells #[.int .u8 2, .int .u8 0] 5)) = .ok (.string (Nib.bs [2, 0])) (W.alloc (.cells #[.int .u8 2, .int .u8 0] 5)) := fun W => conv_lit W [2, 0]
  have g4 : ∀ W : World, (convert 63 9 (.slice (some ⟨W.heap.size, 0, none⟩) 2 2)).run Tryz.prog (W.alloc (.cells #[.int .u8 0, .int .u8 0] 5)) = .ok (.string (Nib.bs [0, 0])) (W.alloc (.cells #[.int .u8 0, .int .u8 0] 5)) := fun W => conv_lit W [0, 0]
  by_cases ho : s.size % 2 = 1
  · have h1 := one_is s.size ho
    have HO := Lib.hid ho
    clear ho
    cases leaf
    all_goals
      go_enter Tryz.func175, Tryz.ntmps175
      go_wp2
      go_ret
      exact ⟨by rw [Nib.front, if_pos HO.out]; rfl, (Below.refl _ _).alloc (Nat.le_refl _) _⟩
  · have h1 := two_is s.size ho
    have HO := Lib.hid ho
    clear ho
    cases leaf
    all_goals
      go_enter Tryz.func175, Tryz.ntmps175
      go_wp2
      go_ret
      exact ⟨by rw [Nib.front, if_neg HO.out]; rfl, (Below.refl _ _).alloc (Nat.le_refl _) _⟩
set_option maxHeartbeats 400000 in
theorem put_yes (s : ByteArray) (leaf : Bool) (w : World) (hs : s.size ≤ 35184372088832) (hv : Nib.valid s.data.toList = true) :
    Calls Tryz.prog 156 #[.string s, .bool leaf] w fun e w' => e = .returned (.tuple #[.string (Nib.bs (Nib.put s.data.toList leaf)), .bool true]) ∧ Below w.heap.size w w' := by
  have HV : Hid (Nib.valid s.data.toList = true) := hv
  clear hv
  go_enter Tryz.func156, Tryz.ntmps156
  go_wp2_with fail
  refine (valid_any s _ (by omega)).mono ?_
  rintro e w' ⟨rfl, rfl⟩
  rw [HV.out]
  go_wp2_with fail
  obtain ⟨W, hW⟩ : ∃ W, W = w.alloc (Obj.cells #[Value.string s] 9) := ⟨_, rfl⟩
  have hc : W.cell? ⟨w.heap.size, 0, none⟩ = some (.string s) := by rw [hW]; simp
  have hbl : Below w.heap.size w W := by rw [hW]; exact (Below.refl _ _).alloc (Nat.le_refl _) _
  have hlt : w.heap.size < W.heap.size := by rw [hW]; simp
  rw [← hW]
  clear hW
  have hsz : (Nib.bs (Nib.front s.size leaf) ++ s).size ≤ 70368744177664 := by
    rw [ByteArray.size_append, Nib.bs_size, Nib.front_length]
    split <;> omega
  have hvl : Nib.valid (Nib.bs (Nib.front s.size leaf) ++ s).data.toList = true := by
    rw [Nib.data_append, Nib.bs_data, Nib.valid_append, Nib.valid_front, HV.out]; rfl
  have HPK : Hid (Nib.pack ((Nib.bs (Nib.front s.size leaf)).data.toList ++ s.data.toList) = Nib.put s.data.toList leaf) := by
    have : Nib.pack ((Nib.bs (Nib.front s.size leaf)).data.toList ++ s.data.toList) = Nib.put s.data.toList leaf := by
      rw [Nib.bs_data, Nib.put, Nib.len_of]
    exact this
  have HSZ := Lib.hid hsz
  have HVL := Lib.hid hvl
  have HS : Hid (s.size ≤ 70368744177664) := by have : s.size ≤ 70368744177664 := by omega
                                                exact this
  have hfs : (Nib.bs (Nib.front s.size leaf)).size ≤ 2 := by
    rw [Nib.bs_size, Nib.front_length]
    split <;> omega
  clear hsz hvl
  go_region_with (first
    | (go_at_call 175; refine (front_any s leaf _ _ HS.out (by exact hc)).mono ?_; rintro e w1 ⟨rfl, hb1⟩; have hc1 := (hb1.cell (p := ⟨w.heap.size, 0, none⟩) hlt).trans hc)
    | (go_at_call 174; refine (pack_any _ _ HSZ.out HVL.out).mono ?_; rintro e w2 ⟨rfl, hb2⟩))
  all_goals go_wp2
  all_goals go_ret2
  all_goals
    have hs1 : w.heap.size ≤ w1.heap.size := Nat.le_trans (Nat.le_of_lt hlt) hb1.size
    exact ⟨congrArg (fun x => Ending.returned (.tuple #[.string (Nib.bs x), .bool true])) HPK.out, (hbl.drew.trans (hb1.mono (Nat.le_of_lt hlt))).trans (hb2.mono hs1)⟩
end Go.Proofs.YtfeonjiiijdibaaGreatDoor
namespace Go.Proofs.YtfeonjiiijdibaaGreatDoor
open Go.RowKit
/-- nibble.Get's three answers. -/
def getV : Option (List UInt8 × Bool) → Value
  | some (p, leaf) => .tuple #[.string (Nib.bs p), .bool leaf, .bool true]
  | none => .tuple #[.string ⟨#[]⟩, .bool false, .bool false]
theorem get_empty (w : World) :
    Calls Tryz.prog 126 #[.string ⟨#[]⟩] w fun e w' => e = .returned (.tuple #[.string ⟨#[]⟩, .bool false, .bool false]) ∧ Below w.heap.size w w' := by
  go_enter Tryz.func126, Tryz.ntmps126
  go_wp2_with fail
  go_ret3
  exact ⟨rfl, Below.refl _ _⟩
theorem u8_ne (x : UInt8) (k : Nat) (hk : k < 256) (h : x ≠ UInt8.ofNat k) : ((x.toNat : Int) == (k : Int)) = false := by
  rw [beq_eq_false_iff_ne]
  intro e
  apply h
  apply UInt8.toNat_inj.1
  rw [UInt8.toNat_ofNat_of_lt' hk]
  exact_mod_cast e
theorem extract_bs (n : ByteArray) (l m : List UInt8) (k : Nat) (hn : n = Nib.bs (l ++ m)) (hk : k = l.length) : n.extract k n.size = Nib.bs m := by
  subst hn hk
  apply ByteArray.ext
  apply Array.toList_inj.1
  rw [Lib.extract_data, Nib.bs_data, Nib.bs_size, Nib.bs_data]
  simp
set_option maxHeartbeats 1000000 in
theorem get_some (s : ByteArray) (w : World) (hs : s.size ≤ 70368744177664) (x y : UInt8) (r : List UInt8) (hn : Nib.path s.data.toList = x :: y :: r) :
    Calls Tryz.prog 126 #[.string s] w fun e w' => e = .returned (getV (Nib.get s.data.toList)) ∧ Below w.heap.size w w' := by
  have hne : s.toList.isEmpty = false := by
    cases hl : s.data.toList with
    | nil => rw [hl] at hn; simp [Nib.path] at hn
    | cons a t => rw [ByteArray.toList_eq, hl]; rfl
  obtain ⟨n, hnn⟩ : ∃ n, n = Nib.bs (Nib.path s.data.toList) := ⟨_, rfl⟩
  obtain ⟨v, hv⟩ : ∃ v, v = getV (Nib.get s.data.toList) := ⟨_, rfl⟩
  have hsz : 2 ≤ n.size := by rw [hnn, hn, Nib.bs_size]; simp
  have hsm : n.size ≤ 140737488355328 := by rw [hnn, Nib.bs_size, Nib.path_length, Nib.len_of]; omega
  have e0 : n[0] = x := by subst hnn; simp only [hn]; rfl
  have e1 : n[1] = y := by subst hnn; simp only [hn]; rfl
  have x1 : n.extract 1 n.size = Nib.bs (y :: r) := extract_bs n [x] _ 1 (by rw [hnn, hn]; rfl) rfl
  have x2 : n.extract 2 n.size = Nib.bs r := extract_bs n [x, y] _ 2 (by rw [hnn, hn]; rfl) rfl
  have HN := Lib.hid hnn
  rw [← hv]
  rw [Nib.get, hn, Nib.getN] at hv
  clear hn hnn
  have hcase : x = 3 ∨ x = 1 ∨ (x = 2 ∧ y = 0) ∨ (x = 0 ∧ y = 0) ∨ (x = 2 ∧ y ≠ 0) ∨ (x = 0 ∧ y ≠ 0) ∨ (x ≠ 3 ∧ x ≠ 1 ∧ x ≠ 2 ∧ x ≠ 0) := by
    by_cases h3 : x = 3
    · exact .inl h3
    by_cases h1 : x = 1
    · exact .inr (.inl h1)
    by_cases h2 : x = 2
    · by_cases hy : y = 0
      · exact .inr (.inr (.inl ⟨h2, hy⟩))
      · exact .inr (.inr (.inr (.inr (.inl ⟨h2, hy⟩))))
    by_cases h0 : x = 0
    · by_cases hy : y = 0
      · exact .inr (.inr (.inr (.inl ⟨h0, hy⟩)))
      · exact .inr (.inr (.inr (.inr (.inr (.inl ⟨h0, hy⟩)))))
    exact .inr (.inr (.inr (.inr (.inr (.inr ⟨h3, h1, h2, h0⟩)))))
  rcases hcase with rfl | rfl | ⟨rfl, rfl⟩ | ⟨rfl, rfl⟩ | ⟨rfl, hy⟩ | ⟨rfl, hy⟩ | ⟨h3, h1, h2, h0⟩
  · rw [if_pos rfl] at hv
    have HV := Lib.hid hv
    clear hv
    go_enter Tryz.func126, Tryz.ntmps126
    go_wp2_with fail
    refine (path_any s _ hs).mono ?_
    rintro e w' ⟨rfl, hb⟩
    rw [← HN.out]
    go_wp2_with fail
    go_ret3
    exact ⟨by rw [HV.out]; rfl, hb⟩
  · rw [if_neg (by decide), if_pos rfl] at hv
    have HV := Lib.hid hv
    clear hv
    go_enter Tryz.func126, Tryz.ntmps126
    go_wp2_with fail
    refine (path_any s _ hs).mono ?_
    rintro e w' ⟨rfl, hb⟩
    rw [← HN.out]
    go_wp2_with fail
    go_ret3
    exact ⟨by rw [HV.out]; rfl, hb⟩
  · rw [if_neg (by decide), if_neg (by decide), if_pos ⟨rfl, rfl⟩] at hv
    have HV := Lib.hid hv
    clear hv
    go_enter Tryz.func126, Tryz.ntmps126
    go_wp2_with fail
    refine (path_any s _ hs).mono ?_
    rintro e w' ⟨rfl, hb⟩
    rw [← HN.out]
    go_wp2_with fail
    go_ret3
    exact ⟨by rw [HV.out]; rfl, hb⟩
  · rw [if_neg (by decide), if_neg (by decide), if_neg (by decide), if_pos ⟨rfl, rfl⟩] at hv
    have HV := Lib.hid hv
    clear hv
    go_enter Tryz.func126, Tryz.ntmps126
    go_wp2_with fail
    refine (path_any s _ hs).mono ?_
    rintro e w' ⟨rfl, hb⟩
    rw [← HN.out]
    go_wp2_with fail
    go_ret3
    exact ⟨by rw [HV.out]; rfl, hb⟩
  · have t1 := u8_ne y 0 (by omega) hy
    rw [if_neg (by decide), if_neg (by decide), if_neg (fun h => hy h.2), if_neg (fun h => hy h.2)] at hv
    have HV := Lib.hid hv
    clear hv hy
    go_enter Tryz.func126, Tryz.ntmps126
    go_wp2_with fail
    refine (path_any s _ hs).mono ?_
    rintro e w' ⟨rfl, hb⟩
    rw [← HN.out]
    go_wp2_with fail
    go_ret3
    exact ⟨by rw [HV.out]; rfl, hb⟩
  · have t1 := u8_ne y 0 (by omega) hy
    rw [if_neg (by decide), if_neg (by decide), if_neg (fun h => hy h.2), if_neg (fun h => hy h.2)] at hv
    have HV := Lib.hid hv
    clear hv hy
    go_enter Tryz.func126, Tryz.ntmps126
    go_wp2_with fail
    refine (path_any s _ hs).mono ?_
    rintro e w' ⟨rfl, hb⟩
    rw [← HN.out]
    go_wp2_with fail
    go_ret3
    exact ⟨by rw [HV.out]; rfl, hb⟩
  · have t1 := u8_ne x 3 (by omega) h3
    have t2 := u8_ne x 1 (by omega) h1
    have t3 := u8_ne x 2 (by omega) h2
    have t4 := u8_ne x 0 (by omega) h0
    rw [if_neg h3, if_neg h1, if_neg (fun h => h2 h.1), if_neg (fun h => h0 h.1)] at hv
    have HV := Lib.hid hv
    clear hv h3 h1 h2 h0
    go_enter Tryz.func126, Tryz.ntmps126
    go_wp2_with fail
    refine (path_any s _ hs).mono ?_
    rintro e w' ⟨rfl, hb⟩
    rw [← HN.out]
    go_wp2_with fail
    go_ret3
    exact ⟨by rw [HV.out]; rfl, hb⟩
end Go.Proofs.YtfeonjiiijdibaaGreatDoor
