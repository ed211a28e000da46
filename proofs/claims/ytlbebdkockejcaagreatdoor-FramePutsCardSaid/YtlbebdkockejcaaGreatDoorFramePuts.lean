/-
  PROVED HERE: Whether any ask, reply, and notice may be, and its bytes, are just what the document says (of what is not short the law asks nothing).
-/
import Derived.Test.YtlbebdkockejcaaGreatDoorFrmWorks
import Derived.Test.YtlbebdkockejcaaGreatDoorFrmArgs
import Derived.Test.YtlbebdkockejcaaGreatDoorFrmLaidZ
import Derived.Test.YtlbebdkockejcaaGreatDoorFrmFew2
import Derived.Test.YtlbebdkockejcaaGreatDoorFrmVal2
import Derived.Test.YtlbebdkockejcaaGreatDoorGaFrS
import Derived.Test.YtlbebdkockejcaaGreatDoorCards
import Derived.Test.YtlbebdkockejcaaGreatDoorTie
import Derived.WalkKit
import Derived.ProofKit
import Derived.LaidMore
import Derived.OpenShut
import Derived.ShutString
import Derived.ChangeOld
import Derived.Below
import Derived.Stop.Joined
import Derived.SevenTiedAt
namespace Go.Proofs.YtlbebdkockejcaaGreatDoor.framePuts
open Go.ChangeShapes Go.WideShapes Go.ChangeAt Go.RowKit Go.Proofs.Mdl
open Go.ChangeMaps (open_string shut_string)
set_option linter.unusedVariables false
set_option linter.unusedSimpArgs false
set_option maxRecDepth 100000 in
set_option maxHeartbeats 32000000 in
theorem walk (w : World) (hl : LaidN w) (v0 : Value) (m0 : Frm.Ask) (S0 : AskV w v0 m0) (v1 : Value) (m1 : Frm.Rep) (S1 : RepV w v1 m1) (v2 : Value) (m2 : Frm.Ntc) (S2 : NtcV w v2 m2) :
    Calls Tryz.prog 3 #[v0, v1, v2] w fun e w' => e = .returned (.bool true) ∧ Below w.heap.size w w' := by
  have HL := Lib.hid hl
  obtain ⟨y1, y2, y3, y4, y5, y6, y7⟩ := m0
  obtain ⟨r1, r2, r3, r4, r5, l, r7, r8⟩ := m1
  obtain ⟨n1, n2, n3, n4, c⟩ := m2
  obtain rfl := S0
  obtain ⟨vr, rfl, hr⟩ := S1
  obtain ⟨vn, rfl, hn⟩ := S2
  simp only at hr hn
  obtain ⟨A1, c1, rfl⟩ := hr.shape
  obtain ⟨A2, c2, rfl⟩ := hn.shape
  have PA := Lib.hid (fun W => putAsk_any ⟨y1, y2, y3, y4, y5, y6, y7⟩ W)
  have QA := Lib.hid (fun W => rputAsk_any ⟨y1, y2, y3, y4, y5, y6, y7⟩ W)
  have UA := Lib.hid (fun W => validAsk_any ⟨y1, y2, y3, y4, y5, y6, y7⟩ W)
  have XA := Lib.hid (fun W => rvalidAsk_any ⟨y1, y2, y3, y4, y5, y6, y7⟩ W)
  have PR := Lib.hid (fun W (hW : Below w.heap.size w W) => putReply_any (w := W) (r := ⟨r1, r2, r3, r4, r5, l, r7, r8⟩) (hr.below hW))
  have QR := Lib.hid (fun W (hW : Below w.heap.size w W) (hL : l.length ≤ 1000) => rputReply_any (w := W) (r := ⟨r1, r2, r3, r4, r5, l, r7, r8⟩) (hr.below hW) hL)
  have UR := Lib.hid (fun W (hW : Below w.heap.size w W) => validReply_any (w := W) (r := ⟨r1, r2, r3, r4, r5, l, r7, r8⟩) (hr.below hW))
  have XR := Lib.hid (fun W (hW : Below w.heap.size w W) (hL : l.length ≤ 1000) => rvalidReply_any (w := W) (r := ⟨r1, r2, r3, r4, r5, l, r7, r8⟩) (hr.below hW) hL)
  have PN := Lib.hid (fun W (hW : Below w.heap.size w W) => putNotice_any (w := W) (r := ⟨n1, n2, n3, n4, c⟩) (hn.below hW))
  have QN := Lib.hid (fun W (hW : Below w.heap.size w W) (hL : c.length ≤ 1000) => rputNotice_any (w := W) (r := ⟨n1, n2, n3, n4, c⟩) (hn.below hW) hL)
  have UN := Lib.hid (fun W (hW : Below w.heap.size w W) => validNotice_any (w := W) (r := ⟨n1, n2, n3, n4, c⟩) (hn.below hW))
  have XN := Lib.hid (fun W (hW : Below w.heap.size w W) (hL : c.length ≤ 1000) => rvalidNotice_any (w := W) (r := ⟨n1, n2, n3, n4, c⟩) (hn.below hW) hL)
  have FE := Lib.hid (fun W (hW : Below w.heap.size w W) => ffew2_any (w := W) (r := ⟨r1, r2, r3, r4, r5, l, r7, r8⟩) (n := ⟨n1, n2, n3, n4, c⟩) (hr.below hW) (hn.below hW))
  obtain ⟨w0, b0, b1, b2, hw, e_0, e_1, e_2, hb0, k0, k1, k2, hz⟩ := boxes3 w 23 27 30 #[.int .i64 y1, .int .i64 y2, .int .i64 y3, .int .i64 y4, .string y5, .string y6, .int .i64 y7] #[.int .i64 r1, .int .i64 r2, .int .i64 r3, .int .i64 r4, .string r5, .slice A1 l.length c1, .string r7, .bool r8] #[.int .i64 n1, .int .i64 n2, .int .i64 n3, .string n4, .slice A2 c.length c2]
  have WK := Lib.hid (fworks_any w0 (hl.on hb0 (Nat.le_refl _)))
  have B0 := Lib.hid hb0
  have K0 := Lib.hid k0
  have K1 := Lib.hid k1
  have K2 := Lib.hid k2
  obtain ⟨SA, hSA⟩ : ∃ q, q = (if Frm.validA ⟨y1, y2, y3, y4, y5, y6, y7⟩ then Frm.putA ⟨y1, y2, y3, y4, y5, y6, y7⟩ else Frm.z0) := ⟨_, rfl⟩
  obtain ⟨eA, heA⟩ : ∃ q : Int, q = (if Frm.validA ⟨y1, y2, y3, y4, y5, y6, y7⟩ then 0 else 1) := ⟨_, rfl⟩
  obtain ⟨bA, hbA⟩ : ∃ q, q = Frm.validA ⟨y1, y2, y3, y4, y5, y6, y7⟩ := ⟨_, rfl⟩
  rw [← hSA, ← heA] at PA QA
  rw [← hbA] at UA XA
  clear hSA heA hbA
  obtain ⟨SR, hSR⟩ : ∃ q, q = (if Frm.validR ⟨r1, r2, r3, r4, r5, l, r7, r8⟩ then Frm.putR ⟨r1, r2, r3, r4, r5, l, r7, r8⟩ else Frm.z0) := ⟨_, rfl⟩
  obtain ⟨eR, heR⟩ : ∃ q : Int, q = (if Frm.validR ⟨r1, r2, r3, r4, r5, l, r7, r8⟩ then 0 else 1) := ⟨_, rfl⟩
  obtain ⟨bR, hbR⟩ : ∃ q, q = Frm.validR ⟨r1, r2, r3, r4, r5, l, r7, r8⟩ := ⟨_, rfl⟩
  rw [← hSR, ← heR] at PR QR
  rw [← hbR] at UR XR
  clear hSR heR hbR
  obtain ⟨SN, hSN⟩ : ∃ q, q = (if Frm.validN ⟨n1, n2, n3, n4, c⟩ then Frm.putN ⟨n1, n2, n3, n4, c⟩ else Frm.z0) := ⟨_, rfl⟩
  obtain ⟨eN, heN⟩ : ∃ q : Int, q = (if Frm.validN ⟨n1, n2, n3, n4, c⟩ then 0 else 1) := ⟨_, rfl⟩
  obtain ⟨bN, hbN⟩ : ∃ q, q = Frm.validN ⟨n1, n2, n3, n4, c⟩ := ⟨_, rfl⟩
  rw [← hSN, ← heN] at PN QN
  rw [← hbN] at UN XN
  clear hSN heN hbN
  simp only [cellA] at PA QA UA XA
  simp only [Go.Proofs.YtlbebdkockejcaaGreatDoor.cellR] at PR QR UR XR FE
  simp only [cellN] at PN QN UN XN FE
  unfold cellA cellN Go.Proofs.YtlbebdkockejcaaGreatDoor.cellR
  clear hl hb0 k0 k1 k2 hz hr hn HL
  go_enter Tryz.func3, Tryz.ntmps3
  go_upto_region 1 with (fail)
  rw [← hw, ← e_2, ← e_1, ← e_0]
  clear hw e_2 e_1 e_0
  go_upto_region 4 with (go_at_call 5; refine WK.out.mono ?_; rintro e w1 ⟨rfl, hb⟩; have B1 := Lib.hid (B0.out.trans (hb.mono B0.out.size)); replace K0 := Lib.hid (K0.out.below hb); replace K1 := Lib.hid (K1.out.below hb); replace K2 := Lib.hid (K2.out.below hb); clear hb)
  have c1_0 := K1.out.cell 0
  have c1_1 := K1.out.cell 1
  have c1_2 := K1.out.cell 2
  have c1_3 := K1.out.cell 3
  have c1_4 := K1.out.cell 4
  have c1_5 := K1.out.cell 5
  have c1_6 := K1.out.cell 6
  have c1_7 := K1.out.cell 7
  have c2_0 := K2.out.cell 0
  have c2_1 := K2.out.cell 1
  have c2_2 := K2.out.cell 2
  have c2_3 := K2.out.cell 3
  have c2_4 := K2.out.cell 4
  simp only [List.getElem?_toArray, List.getElem?_cons_succ, List.getElem?_cons_zero] at c1_0 c1_1 c1_2 c1_3 c1_4 c1_5 c1_6 c1_7 c2_0 c2_1 c2_2 c2_3 c2_4
  go_upto_region 5 with (go_at_call 6; refine (FE.out _ B1.out).mono ?_; rintro e w2 hf; obtain ⟨bf, rfl, hb, hli⟩ := hf.out; have B2 := Lib.hid (B1.out.trans (hb.mono B1.out.size)); have LI := Lib.hid hli; replace K0 := Lib.hid (K0.out.below hb); replace K1 := Lib.hid (K1.out.below hb); replace K2 := Lib.hid (K2.out.below hb); clear hb hf hli)
  clear c1_0 c1_1 c1_2 c1_3 c1_4 c1_5 c1_6 c1_7 c2_0 c2_1 c2_2 c2_3 c2_4
  rcases bf with _ | _
  · clear LI
    go_wp2_with fail
    all_goals go_ret
    all_goals exact ⟨rfl, B2.out⟩
  · have hLI := LI.out rfl
    try simp only at hLI
    have L1 : Hid (l.length ≤ 1000) := Lib.hid (by omega)
    have L2 : Hid (c.length ≤ 1000) := Lib.hid (by omega)
    clear LI hLI WK FE
    have c0_0 := K0.out.cell 0
    have c0_1 := K0.out.cell 1
    have c0_2 := K0.out.cell 2
    have c0_3 := K0.out.cell 3
    have c0_4 := K0.out.cell 4
    have c0_5 := K0.out.cell 5
    have c0_6 := K0.out.cell 6
    simp only [List.getElem?_toArray, List.getElem?_cons_succ, List.getElem?_cons_zero] at c0_0 c0_1 c0_2 c0_3 c0_4 c0_5 c0_6
    go_wp2_with (first
      | (go_at_call 7; refine (PA.out _).mono ?_; rintro e w3 ⟨rfl, hb⟩; have B3 := Lib.hid (B2.out.trans (hb.mono B2.out.size)); replace K0 := Lib.hid (K0.out.below hb); replace K1 := Lib.hid (K1.out.below hb); replace K2 := Lib.hid (K2.out.below hb); clear hb; have c0_0 := K0.out.cell 0; have c0_1 := K0.out.cell 1; have c0_2 := K0.out.cell 2; have c0_3 := K0.out.cell 3; have c0_4 := K0.out.cell 4; have c0_5 := K0.out.cell 5; have c0_6 := K0.out.cell 6; simp only [List.getElem?_toArray, List.getElem?_cons_succ, List.getElem?_cons_zero] at c0_0 c0_1 c0_2 c0_3 c0_4 c0_5 c0_6)
      | (go_at_call 8; refine (QA.out _).mono ?_; rintro e w4 ⟨rfl, hb⟩; have B4 := Lib.hid (B3.out.trans (hb.mono B3.out.size)); replace K0 := Lib.hid (K0.out.below hb); replace K1 := Lib.hid (K1.out.below hb); replace K2 := Lib.hid (K2.out.below hb); clear hb; have c1_0 := K1.out.cell 0; have c1_1 := K1.out.cell 1; have c1_2 := K1.out.cell 2; have c1_3 := K1.out.cell 3; have c1_4 := K1.out.cell 4; have c1_5 := K1.out.cell 5; have c1_6 := K1.out.cell 6; have c1_7 := K1.out.cell 7; simp only [List.getElem?_toArray, List.getElem?_cons_succ, List.getElem?_cons_zero] at c1_0 c1_1 c1_2 c1_3 c1_4 c1_5 c1_6 c1_7)
      | (go_at_call 9; refine (PR.out _ B4.out).mono ?_; rintro e w5 ⟨rfl, hb⟩; have B5 := Lib.hid (B4.out.trans (hb.mono B4.out.size)); replace K0 := Lib.hid (K0.out.below hb); replace K1 := Lib.hid (K1.out.below hb); replace K2 := Lib.hid (K2.out.below hb); clear hb; have c1_0 := K1.out.cell 0; have c1_1 := K1.out.cell 1; have c1_2 := K1.out.cell 2; have c1_3 := K1.out.cell 3; have c1_4 := K1.out.cell 4; have c1_5 := K1.out.cell 5; have c1_6 := K1.out.cell 6; have c1_7 := K1.out.cell 7; simp only [List.getElem?_toArray, List.getElem?_cons_succ, List.getElem?_cons_zero] at c1_0 c1_1 c1_2 c1_3 c1_4 c1_5 c1_6 c1_7)
      | (go_at_call 10; refine (QR.out _ B5.out L1.out).mono ?_; rintro e w6 ⟨rfl, hb⟩; have B6 := Lib.hid (B5.out.trans (hb.mono B5.out.size)); replace K0 := Lib.hid (K0.out.below hb); replace K1 := Lib.hid (K1.out.below hb); replace K2 := Lib.hid (K2.out.below hb); clear hb; have c2_0 := K2.out.cell 0; have c2_1 := K2.out.cell 1; have c2_2 := K2.out.cell 2; have c2_3 := K2.out.cell 3; have c2_4 := K2.out.cell 4; simp only [List.getElem?_toArray, List.getElem?_cons_succ, List.getElem?_cons_zero] at c2_0 c2_1 c2_2 c2_3 c2_4)
      | (go_at_call 11; refine (PN.out _ B6.out).mono ?_; rintro e w7 ⟨rfl, hb⟩; have B7 := Lib.hid (B6.out.trans (hb.mono B6.out.size)); replace K0 := Lib.hid (K0.out.below hb); replace K1 := Lib.hid (K1.out.below hb); replace K2 := Lib.hid (K2.out.below hb); clear hb; have c2_0 := K2.out.cell 0; have c2_1 := K2.out.cell 1; have c2_2 := K2.out.cell 2; have c2_3 := K2.out.cell 3; have c2_4 := K2.out.cell 4; simp only [List.getElem?_toArray, List.getElem?_cons_succ, List.getElem?_cons_zero] at c2_0 c2_1 c2_2 c2_3 c2_4)
      | (go_at_call 12; refine (QN.out _ B7.out L2.out).mono ?_; rintro e w8 ⟨rfl, hb⟩; have B8 := Lib.hid (B7.out.trans (hb.mono B7.out.size)); replace K0 := Lib.hid (K0.out.below hb); replace K1 := Lib.hid (K1.out.below hb); replace K2 := Lib.hid (K2.out.below hb); clear hb; have c0_0 := K0.out.cell 0; have c0_1 := K0.out.cell 1; have c0_2 := K0.out.cell 2; have c0_3 := K0.out.cell 3; have c0_4 := K0.out.cell 4; have c0_5 := K0.out.cell 5; have c0_6 := K0.out.cell 6; simp only [List.getElem?_toArray, List.getElem?_cons_succ, List.getElem?_cons_zero] at c0_0 c0_1 c0_2 c0_3 c0_4 c0_5 c0_6)
      | (go_at_call 13; refine (XA.out _).mono ?_; rintro e w9 ⟨rfl, hb⟩; have B9 := Lib.hid (B8.out.trans (hb.mono B8.out.size)); replace K0 := Lib.hid (K0.out.below hb); replace K1 := Lib.hid (K1.out.below hb); replace K2 := Lib.hid (K2.out.below hb); clear hb; have c1_0 := K1.out.cell 0; have c1_1 := K1.out.cell 1; have c1_2 := K1.out.cell 2; have c1_3 := K1.out.cell 3; have c1_4 := K1.out.cell 4; have c1_5 := K1.out.cell 5; have c1_6 := K1.out.cell 6; have c1_7 := K1.out.cell 7; simp only [List.getElem?_toArray, List.getElem?_cons_succ, List.getElem?_cons_zero] at c1_0 c1_1 c1_2 c1_3 c1_4 c1_5 c1_6 c1_7)
      | (go_at_call 14; refine (XR.out _ B9.out L1.out).mono ?_; rintro e w10 ⟨rfl, hb⟩; have B10 := Lib.hid (B9.out.trans (hb.mono B9.out.size)); replace K0 := Lib.hid (K0.out.below hb); replace K1 := Lib.hid (K1.out.below hb); replace K2 := Lib.hid (K2.out.below hb); clear hb; have c2_0 := K2.out.cell 0; have c2_1 := K2.out.cell 1; have c2_2 := K2.out.cell 2; have c2_3 := K2.out.cell 3; have c2_4 := K2.out.cell 4; simp only [List.getElem?_toArray, List.getElem?_cons_succ, List.getElem?_cons_zero] at c2_0 c2_1 c2_2 c2_3 c2_4)
      | (go_at_call 15; refine (XN.out _ B10.out L2.out).mono ?_; rintro e w11 ⟨rfl, hb⟩; have B11 := Lib.hid (B10.out.trans (hb.mono B10.out.size)); replace K0 := Lib.hid (K0.out.below hb); replace K1 := Lib.hid (K1.out.below hb); replace K2 := Lib.hid (K2.out.below hb); clear hb; have c0_0 := K0.out.cell 0; have c0_1 := K0.out.cell 1; have c0_2 := K0.out.cell 2; have c0_3 := K0.out.cell 3; have c0_4 := K0.out.cell 4; have c0_5 := K0.out.cell 5; have c0_6 := K0.out.cell 6; simp only [List.getElem?_toArray, List.getElem?_cons_succ, List.getElem?_cons_zero] at c0_0 c0_1 c0_2 c0_3 c0_4 c0_5 c0_6)
      | (go_at_call 16; refine (UA.out _).mono ?_; rintro e w12 ⟨rfl, hb⟩; have B12 := Lib.hid (B11.out.trans (hb.mono B11.out.size)); replace K0 := Lib.hid (K0.out.below hb); replace K1 := Lib.hid (K1.out.below hb); replace K2 := Lib.hid (K2.out.below hb); clear hb; have c1_0 := K1.out.cell 0; have c1_1 := K1.out.cell 1; have c1_2 := K1.out.cell 2; have c1_3 := K1.out.cell 3; have c1_4 := K1.out.cell 4; have c1_5 := K1.out.cell 5; have c1_6 := K1.out.cell 6; have c1_7 := K1.out.cell 7; simp only [List.getElem?_toArray, List.getElem?_cons_succ, List.getElem?_cons_zero] at c1_0 c1_1 c1_2 c1_3 c1_4 c1_5 c1_6 c1_7)
      | (go_at_call 17; refine (UR.out _ B12.out).mono ?_; rintro e w13 ⟨rfl, hb⟩; have B13 := Lib.hid (B12.out.trans (hb.mono B12.out.size)); replace K0 := Lib.hid (K0.out.below hb); replace K1 := Lib.hid (K1.out.below hb); replace K2 := Lib.hid (K2.out.below hb); clear hb; have c2_0 := K2.out.cell 0; have c2_1 := K2.out.cell 1; have c2_2 := K2.out.cell 2; have c2_3 := K2.out.cell 3; have c2_4 := K2.out.cell 4; simp only [List.getElem?_toArray, List.getElem?_cons_succ, List.getElem?_cons_zero] at c2_0 c2_1 c2_2 c2_3 c2_4)
      | (go_at_call 18; refine (UN.out _ B13.out).mono ?_; rintro e w14 ⟨rfl, hb⟩; have B14 := Lib.hid (B13.out.trans (hb.mono B13.out.size)); replace K0 := Lib.hid (K0.out.below hb); replace K1 := Lib.hid (K1.out.below hb); replace K2 := Lib.hid (K2.out.below hb); clear hb))
    all_goals go_ret
    all_goals first
      | exact ⟨rfl, B2.out⟩
      | exact ⟨rfl, B14.out⟩
      | (refine ⟨congrArg (fun b => Ending.returned (Value.bool b)) (?_ : (_ : Bool) = _), B14.out⟩; simp)
set_option maxRecDepth 100000 in
theorem lifted (os : Os) (started : os.Started) (H : Type) (enc : TypeId × Value → H) :
    ReturnsInHanded {} Tryz.checked os 3 .any (fun w args => (Rows.framePutsSpec.pre enc Tryz.prog Tryz.f3 [] false w args ∧ laidMetH Tryz.prog Rows.framePutsRow.laid w) ∧ sizedMet enc Tryz.prog Tryz.f3 (OpenSpec.ofChange Rows.framePutsSpec) false w args)
      (Rows.framePutsSpec.post enc Tryz.prog Tryz.f3 false true false false) := by
  refine returnsInHanded_of_change_and (C := Tryz.checked) (X := fun w _ => laidMetH Tryz.prog Rows.framePutsRow.laid w) (fun _ _ _ hh h => h.of_heap hh) own started (by kernel_rfl) Tryz.func3
    (ChangeSpec.witness_shaped (enc := enc) (C := Tryz.checked) (os := os) (X := fun w _ => laidMetH Tryz.prog Rows.framePutsRow.laid w) false (World.doorLaid Tryz.prog 400 os) #[.agg #[.int .i64 0, .int .i64 0, .int .i64 0, .int .i64 0, .string ByteArray.empty, .string ByteArray.empty, .int .i64 0], .agg #[.int .i64 0, .int .i64 0, .int .i64 0, .int .i64 0, .string ByteArray.empty, .slice none 0 0, .string ByteArray.empty, .bool false], .agg #[.int .i64 0, .int .i64 0, .int .i64 0, .string ByteArray.empty, .slice none 0 0]] 8 rfl (World.shaped_of_RefB (by kernel_rfl) (by kernel_rfl)) (by kernel_rfl) (by kernel_rfl) (by kernel_rfl) (door_met os _)) ?_
  intro W base args ds gs before hval0 hW _ _ hL _
  have hval : ∀ (j : Nat) t v, Tryz.f3.params[j]? = some t → args[j]? = some v → Value.okWide Tryz.prog W .any base t v := hval0
  have hW' := hW
  obtain ⟨p, q, hA0, hV, rfl, hfz, hnd⟩ := hW
  have hA : DataW.TrodAll enc Tryz.prog W 0 (fun _ => true) true Tryz.f3.params.toList args.toList ds p := hA0
  rw [Tryz.params3] at hA hval
  obtain ⟨v0, vs0, d0, ds0, p0, q0, hargs, rfl, rfl, h0, r0⟩ := trodAll_cons hA
  obtain ⟨v1, vs1, d1, ds1, p1, q1, rfl, rfl, rfl, h1, r1⟩ := trodAll_cons r0
  obtain ⟨v2, vs2, d2, ds2, p2, q2, rfl, rfl, rfl, h2, r2⟩ := trodAll_cons r1
  obtain ⟨rfl, rfl, rfl⟩ := trodAll_nil r2
  obtain rfl : args = #[v0, v1, v2] := by cases args; simp_all
  obtain ⟨rfl, rfl⟩ := trodVars_none hV
  simp only [List.append_nil] at hW'
  have hk0 := h0
  have hlt0 : ∀ x ∈ p0, x.block < W.heap.size := fun x hx => hW'.lt x (by simp [hx])
  obtain ⟨m0, S0⟩ := arg_ask (hval 0 23 v0 rfl rfl) h0
  have hk1 := h1
  have hlt1 : ∀ x ∈ p1, x.block < W.heap.size := fun x hx => hW'.lt x (by simp [hx])
  obtain ⟨m1, S1⟩ := arg_rep (hval 1 27 v1 rfl rfl) h1
  have hk2 := h2
  have hlt2 : ∀ x ∈ p2, x.block < W.heap.size := fun x hx => hW'.lt x (by simp [hx])
  obtain ⟨m2, S2⟩ := arg_ntc (hval 2 30 v2 rfl rfl) h2
  have hl : LaidN W := laid_of hL
  clear hA0 hval0
  refine (walk W hl v0 m0 S0 v1 m1 S1 v2 m2 S2).mono fun e W' ⟨he, bel⟩ => ?_
  subst he
  exact ⟨_, rfl, _, _, _, [], _, [], hW', trodAll_mk1 (shut_bool Tryz.underlying4 _), (trodAll_cons_mk (Below.trod laidOut (by kernel_rfl) (of_decide_eq_true (by kernel_rfl)) hk0 bel hlt0) (trodAll_cons_mk (Below.trod laidOut (by kernel_rfl) (of_decide_eq_true (by kernel_rfl)) hk1 bel hlt1) (trodAll_cons_mk (Below.trod laidOut (by kernel_rfl) (of_decide_eq_true (by kernel_rfl)) hk2 bel hlt2) trodAll_mk0))), rfl, bel.frame _, fun h => by cases h⟩
theorem over : Rows.FramePutsSaid :=
  OpenClaim.holds_of_wide 3 Tryz.f3 rfl rfl rfl rfl rfl rfl rfl ⟨rfl, rfl, rfl, rfl, rfl⟩ rfl rfl rfl rfl rfl (by kernel_rfl) Tryz.func3 (by kernel_rfl)
    (of_decide_eq_true (by kernel_rfl)) (by unfold Func.isWrapper; rw [if_neg (by decide +kernel)]; exact ⟨rfl, rfl⟩)
    (fun os started H enc _ => lifted os started H enc)
theorem proved : Rows.FramePutsCardSaid :=
  Claim7.holds_tied_plain_at .later [] [.handle] true Rows.framePutsCard.stood.harness true
    over (fun _ h => by cases h) (by kernel_rfl) (fun _ h => by cases h) framePuts_row_tie rfl ⟨rfl, rfl⟩ (by kernel_rfl) rfl
    (fun f fn hf hfn => by
      obtain rfl : f = 3 := Option.some.inj ((show Tryz.prog.funcNamed "guilloche/guillochelaw16.FramePuts" = some 3 by kernel_rfl).symm.trans hf) |>.symm
      obtain rfl : fn = Tryz.f3 := (Option.some.inj (Tryz.func3.symm.trans hfn)).symm
      exact ⟨by kernel_rfl, fun j t ht => by
        rw [Tryz.params3] at ht
        have hm : t ∈ [23, 27, 30] := by simpa using Array.mem_of_getElem? ht
        have hall : ([23, 27, 30].all fun u => !Tryz.prog.wantsStandIn u) = true := by kernel_rfl
        exact (show Tryz.prog.wantsStandIn t = false by simpa using List.all_eq_true.1 hall t hm)⟩)
    (by kernel_rfl)
end Go.Proofs.YtlbebdkockejcaaGreatDoor.framePuts
