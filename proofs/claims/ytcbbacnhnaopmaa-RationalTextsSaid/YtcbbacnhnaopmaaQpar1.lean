/- Contracts: Parse of package rational. -/
import Derived.Test.YtcbbacnhnaopmaaQcut
import Derived.Test.YtcbbacnhnaopmaaIpar
namespace Go.Proofs.Ytcbbacnhnaopmaa
open Go.RowKit

/-- What Parse accepts behind a slash: a denominator of more than 1 in lowest terms. -/
def accQ (z : Int) (D : Nat) : Bool := decide (dn (mkRat z D).den = dg D)
theorem acc_den {z : Int} {D : Nat} (h : accQ z D = true) (hD : 0 < D) : (mkRat z D).den = D ∧ (mkRat z D).num = z ∧ D ≠ 1 := by
  unfold accQ at h
  have h1 : dn (mkRat z D).den = dg D := of_decide_eq_true h
  have hp := (mkRat z D).den_pos
  have hd1 : (mkRat z D).den ≠ 1 := fun e => by
    rw [e, show dn 1 = [] from rfl] at h1
    have := dg_len_pos hD
    rw [← h1] at this
    exact absurd this (by decide)
  have e : (mkRat z D).den = D := by
    rw [dn_ne hd1] at h1
    exact dg_inj h1
  refine ⟨e, ?_, by rw [e] at hd1; exact hd1⟩
  have hv := low_den z D
  have hn := low_num z D
  rw [ly_rat hD, e] at hv
  rw [lz_rat hD] at hn
  have hg : Nat.gcd z.natAbs D = 1 := by
    have : D * Nat.gcd z.natAbs D = D * 1 := by omega
    exact Nat.eq_of_mul_eq_mul_left hD this
  rw [hg] at hn
  simpa using hn
theorem acc_vB {z : Int} {D : Nat} (hD : 0 < D) : vB (sg z) (dg z.natAbs) (dg D) = accQ z D := by
  have e1 : dv1 (dg D) = D := by unfold dv1; rw [val_dg, if_neg (by omega)]
  unfold vB
  rw [iv_sg, e1]
  cases h : accQ z D
  · unfold accQ at h
    have h1 : ¬dn (mkRat z D).den = dg D := of_decide_eq_false h
    rw [decide_eq_false (show ¬dg D = dn (mkRat z D).den from fun e => h1 e.symm), Bool.and_false]
  · obtain ⟨a, b, c⟩ := acc_den h hD
    rw [b, a, dn_ne c]
    simp

set_option maxRecDepth 100000 in
set_option maxHeartbeats 4000000 in
theorem qparse_a (s a b : ByteArray) (f : Bool) (z : Int) (w : World) (CUT : ∀ W : World, Calls Try.prog 118 #[.string s, .string ⟨#[47]⟩] W (fun e w' => e = .returned (.tuple #[.string a, .string b, .bool f]) ∧ Below W.heap.size W w')) (PI : ∀ W : World, Calls Try.prog 45 #[.string a] W (RetInt2 W z 3)) :
    Calls Try.prog 79 #[.string s] w (RetQ2 w 0 900 3) := by
  have K := hid (Blk.new w [.bool false, .slice none 0 0, .slice none 0 0] 50)
  have B := hid (bx_alloc (bx_refl w) (.cells #[.bool false, .slice none 0 0, .slice none 0 0] 50))
  have CU := hid CUT
  have PA := hid PI
  clear CUT PI
  go_enter Try.func79, Try.ntmps79
  go_wp2_with fail
  refine (CU.out _).mono ?_
  rintro e w1 ⟨rfl, b1⟩
  have K1 := hid (K.out.keep b1)
  have B1 := hid (bx_call B.out b1)
  clear b1 K B CU
  go_wp2_with fail
  refine (PA.out _).mono ?_
  rintro e w2 ⟨A1, n1, c1, rfl, r1, b2⟩
  have o := bx_alloc (bx_refl w2) (.cells #[.bool (sg z), .slice A1 n1 c1] 25)
  have p1 := r1.2.1
  have p2 := r1.2.2.1
  have K2 := hid (K1.out.keep (bx_call b2 o))
  have B2 := hid (bx_call B1.out (bx_call b2 o))
  have R1 := hid (r1.keep o)
  have KI := hid (Blk.new w2 [.bool (sg z), .slice A1 n1 c1] 25)
  clear r1 b2 o K1 B1 PA
  obtain ⟨v2, hv⟩ : ∃ W, W = w2.alloc (.cells #[.bool (sg z), .slice A1 n1 c1] 25) := ⟨_, rfl⟩
  obtain ⟨bi, hb⟩ : ∃ i, i = w2.heap.size := ⟨_, rfl⟩
  rw [← hv] at K2 B2 R1 KI
  rw [← hb] at KI
  go_upto_region 3 with fail
  rw [← hv, ← hb]
  clear hv hb
  have EE := hid (retq2_end (z := 3) (frl_zero v2 (k := 900) (by omega)) K2.out B2.out (Nat.le_refl _))
  obtain ⟨x0, x1, x2⟩ := blk_three K2.out
  have f0 := Blk.free K2.out 0
  have f1 := Blk.free K2.out 1
  have f2 := Blk.free K2.out 2
  clear K2 B2 R1 KI
  go_wp2_with fail
  exact bodyPost_ret (v := .tuple #[.agg #[.bool (sg (0 : Rat).num), .slice none 0 0, .slice none 0 0], .int .i64 3]) (by simp [results, Try.results79, go_sem, x0, x1, x2, sg]) rfl EE.out

set_option maxRecDepth 100000 in
set_option maxHeartbeats 4000000 in
theorem qparse_b (s a b : ByteArray) (z : Int) (w : World) (CUT : ∀ W : World, Calls Try.prog 118 #[.string s, .string ⟨#[47]⟩] W (fun e w' => e = .returned (.tuple #[.string a, .string b, .bool false]) ∧ Below W.heap.size W w')) (PI : ∀ W : World, Calls Try.prog 45 #[.string a] W (RetInt2 W z 0)) (hz : (dg z.natAbs).length ≤ 900) :
    Calls Try.prog 79 #[.string s] w (RetQ2 w (z : Rat) 900 0) := by
  have K := hid (Blk.new w [.bool false, .slice none 0 0, .slice none 0 0] 50)
  have B := hid (bx_alloc (bx_refl w) (.cells #[.bool false, .slice none 0 0, .slice none 0 0] 50))
  have CU := hid CUT
  have PA := hid PI
  clear CUT PI
  go_enter Try.func79, Try.ntmps79
  go_wp2_with fail
  refine (CU.out _).mono ?_
  rintro e w1 ⟨rfl, b1⟩
  have K1 := hid (K.out.keep b1)
  have B1 := hid (bx_call B.out b1)
  clear b1 K B CU
  go_wp2_with fail
  refine (PA.out _).mono ?_
  rintro e w2 ⟨A1, n1, c1, rfl, r1, b2⟩
  have o := bx_alloc (bx_refl w2) (.cells #[.bool (sg z), .slice A1 n1 c1] 25)
  have p1 := r1.2.1
  have p2 := r1.2.2.1
  have K2 := hid (K1.out.keep (bx_call b2 o))
  have B2 := hid (bx_call B1.out (bx_call b2 o))
  have R1 := hid (r1.keep o)
  have KI := hid (Blk.new w2 [.bool (sg z), .slice A1 n1 c1] 25)
  clear r1 b2 o K1 B1 PA
  obtain ⟨v2, hv⟩ : ∃ W, W = w2.alloc (.cells #[.bool (sg z), .slice A1 n1 c1] 25) := ⟨_, rfl⟩
  obtain ⟨bi, hb⟩ : ∃ i, i = w2.heap.size := ⟨_, rfl⟩
  rw [← hv] at K2 B2 R1 KI
  rw [← hb] at KI
  go_upto_region 3 with fail
  rw [← hv, ← hb]
  clear hv hb
  have EE : Hid (RetQ2 w (z : Rat) 900 0 (.returned (.tuple #[.agg #[.bool (sg z), .slice A1 n1 c1, .slice none 0 0], .int .i64 0])) (((v2.setCell ⟨w.heap.size, 0, none⟩ (.bool (sg z))).setCell ⟨w.heap.size, 1, none⟩ (.slice A1 n1 c1)).setCell ⟨w.heap.size, 2, none⟩ (.slice none 0 0))) := hid (retq2_end (q := (z : Rat)) (z := 0) (show FrL v2 A1 n1 c1 none 0 0 900 (z : Rat) from ⟨R1.out, by rw [← R1.out.1]; exact hz, Rd.nil v2 none, Nat.zero_le _, by omega⟩) K2.out B2.out (Nat.le_refl _))
  obtain ⟨x0, x1, x2⟩ := blk_three K2.out
  have f0 := Blk.free K2.out 0
  have f1 := Blk.free K2.out 1
  have f2 := Blk.free K2.out 2
  obtain ⟨s0, s1⟩ := blk_two KI.out
  clear K2 B2 R1 KI
  go_wp2_with fail
  exact bodyPost_ret (v := .tuple #[.agg #[.bool (sg z), .slice A1 n1 c1, .slice none 0 0], .int .i64 0]) (by simp [results, Try.results79, go_sem, x0, x1, x2]) rfl EE.out

set_option maxRecDepth 100000 in
set_option maxHeartbeats 4000000 in
theorem qparse_c (s a b : ByteArray) (z : Int) (w : World) (CUT : ∀ W : World, Calls Try.prog 118 #[.string s, .string ⟨#[47]⟩] W (fun e w' => e = .returned (.tuple #[.string a, .string b, .bool true]) ∧ Below W.heap.size W w')) (PI : ∀ W : World, Calls Try.prog 45 #[.string a] W (RetInt2 W z 0)) (PN : ∀ W : World, Calls Try.prog 104 #[.string b] W (Ret2 W [] 3)) :
    Calls Try.prog 79 #[.string s] w (RetQ2 w 0 900 3) := by
  have K := hid (Blk.new w [.bool false, .slice none 0 0, .slice none 0 0] 50)
  have B := hid (bx_alloc (bx_refl w) (.cells #[.bool false, .slice none 0 0, .slice none 0 0] 50))
  have CU := hid CUT
  have PA := hid PI
  clear CUT PI
  go_enter Try.func79, Try.ntmps79
  go_wp2_with fail
  refine (CU.out _).mono ?_
  rintro e w1 ⟨rfl, b1⟩
  have K1 := hid (K.out.keep b1)
  have B1 := hid (bx_call B.out b1)
  clear b1 K B CU
  go_wp2_with fail
  refine (PA.out _).mono ?_
  rintro e w2 ⟨A1, n1, c1, rfl, r1, b2⟩
  have o := bx_alloc (bx_refl w2) (.cells #[.bool (sg z), .slice A1 n1 c1] 25)
  have p1 := r1.2.1
  have p2 := r1.2.2.1
  have K2 := hid (K1.out.keep (bx_call b2 o))
  have B2 := hid (bx_call B1.out (bx_call b2 o))
  have R1 := hid (r1.keep o)
  have KI := hid (Blk.new w2 [.bool (sg z), .slice A1 n1 c1] 25)
  clear r1 b2 o K1 B1 PA
  obtain ⟨v2, hv⟩ : ∃ W, W = w2.alloc (.cells #[.bool (sg z), .slice A1 n1 c1] 25) := ⟨_, rfl⟩
  obtain ⟨bi, hb⟩ : ∃ i, i = w2.heap.size := ⟨_, rfl⟩
  rw [← hv] at K2 B2 R1 KI
  rw [← hb] at KI
  go_upto_region 3 with fail
  rw [← hv, ← hb]
  clear hv hb
  have PD := hid PN
  clear PN
  go_wp2_with fail
  refine (PD.out _).mono ?_
  rintro e w3 ⟨v3, rfl, ⟨D1, m1, d1, rfl, r3⟩, b3⟩
  have p3 := r3.2.1
  have p4 := r3.2.2.1
  have K3 := hid (K2.out.keep b3)
  have B3 := hid (bx_call B2.out b3)
  have R3 := hid (R1.out.keep b3)
  have KI3 := hid (KI.out.keep b3)
  have S3 := hid r3
  clear r3 b3 K2 B2 R1 KI PD
  have EE := hid (retq2_end (z := 3) (frl_zero w3 (k := 900) (by omega)) K3.out B3.out (Nat.le_refl _))
  obtain ⟨x0, x1, x2⟩ := blk_three K3.out
  have f0 := Blk.free K3.out 0
  have f1 := Blk.free K3.out 1
  have f2 := Blk.free K3.out 2
  clear K3 B3 R3 KI3 S3
  go_wp2_with fail
  exact bodyPost_ret (v := .tuple #[.agg #[.bool (sg (0 : Rat).num), .slice none 0 0, .slice none 0 0], .int .i64 3]) (by simp [results, Try.results79, go_sem, x0, x1, x2, sg]) rfl EE.out

set_option maxRecDepth 100000 in
set_option maxHeartbeats 4000000 in
theorem qparse_d (s a b : ByteArray) (z : Int) (w : World) (CUT : ∀ W : World, Calls Try.prog 118 #[.string s, .string ⟨#[47]⟩] W (fun e w' => e = .returned (.tuple #[.string a, .string b, .bool true]) ∧ Below W.heap.size W w')) (PI : ∀ W : World, Calls Try.prog 45 #[.string a] W (RetInt2 W z 0)) (PN : ∀ W : World, Calls Try.prog 104 #[.string b] W (Ret2 W (dg 0) 0)) :
    Calls Try.prog 79 #[.string s] w (RetQ2 w 0 900 3) := by
  have K := hid (Blk.new w [.bool false, .slice none 0 0, .slice none 0 0] 50)
  have B := hid (bx_alloc (bx_refl w) (.cells #[.bool false, .slice none 0 0, .slice none 0 0] 50))
  have CU := hid CUT
  have PA := hid PI
  clear CUT PI
  go_enter Try.func79, Try.ntmps79
  go_wp2_with fail
  refine (CU.out _).mono ?_
  rintro e w1 ⟨rfl, b1⟩
  have K1 := hid (K.out.keep b1)
  have B1 := hid (bx_call B.out b1)
  clear b1 K B CU
  go_wp2_with fail
  refine (PA.out _).mono ?_
  rintro e w2 ⟨A1, n1, c1, rfl, r1, b2⟩
  have o := bx_alloc (bx_refl w2) (.cells #[.bool (sg z), .slice A1 n1 c1] 25)
  have p1 := r1.2.1
  have p2 := r1.2.2.1
  have K2 := hid (K1.out.keep (bx_call b2 o))
  have B2 := hid (bx_call B1.out (bx_call b2 o))
  have R1 := hid (r1.keep o)
  have KI := hid (Blk.new w2 [.bool (sg z), .slice A1 n1 c1] 25)
  clear r1 b2 o K1 B1 PA
  obtain ⟨v2, hv⟩ : ∃ W, W = w2.alloc (.cells #[.bool (sg z), .slice A1 n1 c1] 25) := ⟨_, rfl⟩
  obtain ⟨bi, hb⟩ : ∃ i, i = w2.heap.size := ⟨_, rfl⟩
  rw [← hv] at K2 B2 R1 KI
  rw [← hb] at KI
  go_upto_region 3 with fail
  rw [← hv, ← hb]
  clear hv hb
  have PD := hid PN
  clear PN
  go_wp2_with fail
  refine (PD.out _).mono ?_
  rintro e w3 ⟨v3, rfl, ⟨D1, m1, d1, rfl, r3⟩, b3⟩
  have p3 := r3.2.1
  have p4 := r3.2.2.1
  have K3 := hid (K2.out.keep b3)
  have B3 := hid (bx_call B2.out b3)
  have R3 := hid (R1.out.keep b3)
  have KI3 := hid (KI.out.keep b3)
  have S3 := hid r3
  clear r3 b3 K2 B2 R1 KI PD
  obtain ⟨s0, s1⟩ := blk_two KI3.out
  go_upto_region 11 with fail
  clear s0 s1
  have o := bx_alloc (bx_refl w3) (.cells #[.bool (sg z), .slice A1 n1 c1, .slice D1 m1 d1] 50)
  have K4 := hid (K3.out.keep o)
  have B4 := hid (bx_call B3.out o)
  have R4 := hid (R3.out.keep o)
  have S4 := hid (S3.out.keep o)
  have KA := hid (Blk.new w3 [.bool (sg z), .slice A1 n1 c1, .slice D1 m1 d1] 50)
  obtain ⟨v4, hv⟩ : ∃ W, W = w3.alloc (.cells #[.bool (sg z), .slice A1 n1 c1, .slice D1 m1 d1] 50) := ⟨_, rfl⟩
  obtain ⟨ba, hb⟩ : ∃ i, i = w3.heap.size := ⟨_, rfl⟩
  rw [← hv] at K4 B4 R4 S4 KA ⊢
  rw [← hb] at KA ⊢
  clear hv hb o K3 B3 R3 KI3 S3
  have hm0 : m1 = 0 := by rw [← S4.out.1]; rfl
  subst hm0
  obtain ⟨t0, t1, t2⟩ := blk_three KA.out
  have EE := hid (retq2_end (z := 3) (frl_zero v4 (k := 900) (by omega)) K4.out B4.out (Nat.le_refl _))
  obtain ⟨x0, x1, x2⟩ := blk_three K4.out
  have f0 := Blk.free K4.out 0
  have f1 := Blk.free K4.out 1
  have f2 := Blk.free K4.out 2
  clear K4 B4 R4 KA S4
  go_wp2_with fail
  exact bodyPost_ret (v := .tuple #[.agg #[.bool (sg (0 : Rat).num), .slice none 0 0, .slice none 0 0], .int .i64 3]) (by simp [results, Try.results79, go_sem, x0, x1, x2, sg]) rfl EE.out

set_option maxRecDepth 100000 in
set_option maxHeartbeats 4000000 in
theorem qparse_e (s a b : ByteArray) (z : Int) (w : World) (CUT : ∀ W : World, Calls Try.prog 118 #[.string s, .string ⟨#[47]⟩] W (fun e w' => e = .returned (.tuple #[.string a, .string b, .bool true]) ∧ Below W.heap.size W w')) (PI : ∀ W : World, Calls Try.prog 45 #[.string a] W (RetInt2 W z 0)) (D : Nat) (hD : 0 < D) (hz : (dg z.natAbs).length ≤ 900) (hd : (dg D).length ≤ 900) (PN : ∀ W : World, Calls Try.prog 104 #[.string b] W (Ret2 W (dg D) 0)) (hacc : accQ z D = false) :
    Calls Try.prog 79 #[.string s] w (RetQ2 w 0 900 3) := by
  have K := hid (Blk.new w [.bool false, .slice none 0 0, .slice none 0 0] 50)
  have B := hid (bx_alloc (bx_refl w) (.cells #[.bool false, .slice none 0 0, .slice none 0 0] 50))
  have CU := hid CUT
  have PA := hid PI
  clear CUT PI
  go_enter Try.func79, Try.ntmps79
  go_wp2_with fail
  refine (CU.out _).mono ?_
  rintro e w1 ⟨rfl, b1⟩
  have K1 := hid (K.out.keep b1)
  have B1 := hid (bx_call B.out b1)
  clear b1 K B CU
  go_wp2_with fail
  refine (PA.out _).mono ?_
  rintro e w2 ⟨A1, n1, c1, rfl, r1, b2⟩
  have o := bx_alloc (bx_refl w2) (.cells #[.bool (sg z), .slice A1 n1 c1] 25)
  have p1 := r1.2.1
  have p2 := r1.2.2.1
  have K2 := hid (K1.out.keep (bx_call b2 o))
  have B2 := hid (bx_call B1.out (bx_call b2 o))
  have R1 := hid (r1.keep o)
  have KI := hid (Blk.new w2 [.bool (sg z), .slice A1 n1 c1] 25)
  clear r1 b2 o K1 B1 PA
  obtain ⟨v2, hv⟩ : ∃ W, W = w2.alloc (.cells #[.bool (sg z), .slice A1 n1 c1] 25) := ⟨_, rfl⟩
  obtain ⟨bi, hb⟩ : ∃ i, i = w2.heap.size := ⟨_, rfl⟩
  rw [← hv] at K2 B2 R1 KI
  rw [← hb] at KI
  go_upto_region 3 with fail
  rw [← hv, ← hb]
  clear hv hb
  have PD := hid PN
  clear PN
  go_wp2_with fail
  refine (PD.out _).mono ?_
  rintro e w3 ⟨v3, rfl, ⟨D1, m1, d1, rfl, r3⟩, b3⟩
  have p3 := r3.2.1
  have p4 := r3.2.2.1
  have K3 := hid (K2.out.keep b3)
  have B3 := hid (bx_call B2.out b3)
  have R3 := hid (R1.out.keep b3)
  have KI3 := hid (KI.out.keep b3)
  have S3 := hid r3
  clear r3 b3 K2 B2 R1 KI PD
  obtain ⟨s0, s1⟩ := blk_two KI3.out
  go_upto_region 11 with fail
  clear s0 s1
  have o := bx_alloc (bx_refl w3) (.cells #[.bool (sg z), .slice A1 n1 c1, .slice D1 m1 d1] 50)
  have K4 := hid (K3.out.keep o)
  have B4 := hid (bx_call B3.out o)
  have R4 := hid (R3.out.keep o)
  have S4 := hid (S3.out.keep o)
  have KA := hid (Blk.new w3 [.bool (sg z), .slice A1 n1 c1, .slice D1 m1 d1] 50)
  obtain ⟨v4, hv⟩ : ∃ W, W = w3.alloc (.cells #[.bool (sg z), .slice A1 n1 c1, .slice D1 m1 d1] 50) := ⟨_, rfl⟩
  obtain ⟨ba, hb⟩ : ∃ i, i = w3.heap.size := ⟨_, rfl⟩
  rw [← hv] at K4 B4 R4 S4 KA ⊢
  rw [← hb] at KA ⊢
  clear hv hb o K3 B3 R3 KI3 S3
  have hm0 : ((m1 : Int) == 0) = false := by
    rw [beq_eq_false_iff_ne]
    have := S4.out.1
    have := dg_len_pos hD
    omega
  have cc := vvalid (sg z) A1 n1 c1 _ D1 m1 d1 _ v4 R4.out (by have := R4.out.1; omega) S4.out (by have := S4.out.1; omega)
  rw [acc_vB hD, hacc] at cc
  have VV := hid cc
  obtain ⟨t0, t1, t2⟩ := blk_three KA.out
  clear cc
  go_wp2_with fail
  refine (VV.out).mono ?_
  rintro e w5 ⟨rfl, b5⟩
  have K5 := hid (K4.out.keep b5)
  have B5 := hid (bx_call B4.out b5)
  have R5 := hid (R4.out.keep b5)
  have S5 := hid (S4.out.keep b5)
  have KA5 := hid (KA.out.keep b5)
  clear b5 VV K4 B4 R4 S4 KA t0 t1 t2
  have EE := hid (retq2_end (z := 3) (frl_zero w5 (k := 900) (by omega)) K5.out B5.out (Nat.le_refl _))
  obtain ⟨x0, x1, x2⟩ := blk_three K5.out
  have f0 := Blk.free K5.out 0
  have f1 := Blk.free K5.out 1
  have f2 := Blk.free K5.out 2
  clear K5 B5 R5 KA5 S5
  go_wp2_with fail
  exact bodyPost_ret (v := .tuple #[.agg #[.bool (sg (0 : Rat).num), .slice none 0 0, .slice none 0 0], .int .i64 3]) (by simp [results, Try.results79, go_sem, x0, x1, x2, sg]) rfl EE.out

set_option maxRecDepth 100000 in
set_option maxHeartbeats 4000000 in
theorem qparse_f (s a b : ByteArray) (z : Int) (w : World) (CUT : ∀ W : World, Calls Try.prog 118 #[.string s, .string ⟨#[47]⟩] W (fun e w' => e = .returned (.tuple #[.string a, .string b, .bool true]) ∧ Below W.heap.size W w')) (PI : ∀ W : World, Calls Try.prog 45 #[.string a] W (RetInt2 W z 0)) (D : Nat) (hD : 0 < D) (hz : (dg z.natAbs).length ≤ 900) (hd : (dg D).length ≤ 900) (PN : ∀ W : World, Calls Try.prog 104 #[.string b] W (Ret2 W (dg D) 0)) (hacc : accQ z D = true) :
    Calls Try.prog 79 #[.string s] w (RetQ2 w (mkRat z D) 900 0) := by
  have K := hid (Blk.new w [.bool false, .slice none 0 0, .slice none 0 0] 50)
  have B := hid (bx_alloc (bx_refl w) (.cells #[.bool false, .slice none 0 0, .slice none 0 0] 50))
  have CU := hid CUT
  have PA := hid PI
  clear CUT PI
  go_enter Try.func79, Try.ntmps79
  go_wp2_with fail
  refine (CU.out _).mono ?_
  rintro e w1 ⟨rfl, b1⟩
  have K1 := hid (K.out.keep b1)
  have B1 := hid (bx_call B.out b1)
  clear b1 K B CU
  go_wp2_with fail
  refine (PA.out _).mono ?_
  rintro e w2 ⟨A1, n1, c1, rfl, r1, b2⟩
  have o := bx_alloc (bx_refl w2) (.cells #[.bool (sg z), .slice A1 n1 c1] 25)
  have p1 := r1.2.1
  have p2 := r1.2.2.1
  have K2 := hid (K1.out.keep (bx_call b2 o))
  have B2 := hid (bx_call B1.out (bx_call b2 o))
  have R1 := hid (r1.keep o)
  have KI := hid (Blk.new w2 [.bool (sg z), .slice A1 n1 c1] 25)
  clear r1 b2 o K1 B1 PA
  obtain ⟨v2, hv⟩ : ∃ W, W = w2.alloc (.cells #[.bool (sg z), .slice A1 n1 c1] 25) := ⟨_, rfl⟩
  obtain ⟨bi, hb⟩ : ∃ i, i = w2.heap.size := ⟨_, rfl⟩
  rw [← hv] at K2 B2 R1 KI
  rw [← hb] at KI
  go_upto_region 3 with fail
  rw [← hv, ← hb]
  clear hv hb
  have PD := hid PN
  clear PN
  go_wp2_with fail
  refine (PD.out _).mono ?_
  rintro e w3 ⟨v3, rfl, ⟨D1, m1, d1, rfl, r3⟩, b3⟩
  have p3 := r3.2.1
  have p4 := r3.2.2.1
  have K3 := hid (K2.out.keep b3)
  have B3 := hid (bx_call B2.out b3)
  have R3 := hid (R1.out.keep b3)
  have KI3 := hid (KI.out.keep b3)
  have S3 := hid r3
  clear r3 b3 K2 B2 R1 KI PD
  obtain ⟨s0, s1⟩ := blk_two KI3.out
  go_upto_region 11 with fail
  clear s0 s1
  have o := bx_alloc (bx_refl w3) (.cells #[.bool (sg z), .slice A1 n1 c1, .slice D1 m1 d1] 50)
  have K4 := hid (K3.out.keep o)
  have B4 := hid (bx_call B3.out o)
  have R4 := hid (R3.out.keep o)
  have S4 := hid (S3.out.keep o)
  have KA := hid (Blk.new w3 [.bool (sg z), .slice A1 n1 c1, .slice D1 m1 d1] 50)
  obtain ⟨v4, hv⟩ : ∃ W, W = w3.alloc (.cells #[.bool (sg z), .slice A1 n1 c1, .slice D1 m1 d1] 50) := ⟨_, rfl⟩
  obtain ⟨ba, hb⟩ : ∃ i, i = w3.heap.size := ⟨_, rfl⟩
  rw [← hv] at K4 B4 R4 S4 KA ⊢
  rw [← hb] at KA ⊢
  clear hv hb o K3 B3 R3 KI3 S3
  have hm0 : ((m1 : Int) == 0) = false := by
    rw [beq_eq_false_iff_ne]
    have := S4.out.1
    have := dg_len_pos hD
    omega
  have cc := vvalid (sg z) A1 n1 c1 _ D1 m1 d1 _ v4 R4.out (by have := R4.out.1; omega) S4.out (by have := S4.out.1; omega)
  rw [acc_vB hD, hacc] at cc
  have VV := hid cc
  obtain ⟨t0, t1, t2⟩ := blk_three KA.out
  clear cc
  go_wp2_with fail
  refine (VV.out).mono ?_
  rintro e w5 ⟨rfl, b5⟩
  have K5 := hid (K4.out.keep b5)
  have B5 := hid (bx_call B4.out b5)
  have R5 := hid (R4.out.keep b5)
  have S5 := hid (S4.out.keep b5)
  have KA5 := hid (KA.out.keep b5)
  clear b5 VV K4 B4 R4 S4 KA t0 t1 t2
  obtain ⟨a1, a2, a3⟩ := acc_den hacc hD
  have FL : FrL w5 A1 n1 c1 D1 m1 d1 900 (mkRat z D) := ⟨by rw [a2]; exact R5.out, by rw [← R5.out.1]; exact hz, by rw [a1, dn_ne a3]; exact S5.out, by rw [← S5.out.1]; exact hd, by omega⟩
  have EE := hid (retq2_end (z := 0) FL K5.out B5.out (Nat.le_refl _))
  rw [a2] at EE
  obtain ⟨x0, x1, x2⟩ := blk_three K5.out
  have f0 := Blk.free K5.out 0
  have f1 := Blk.free K5.out 1
  have f2 := Blk.free K5.out 2
  obtain ⟨t0, t1, t2⟩ := blk_three KA5.out
  clear FL K5 B5 R5 S5 KA5 a1 a2 a3
  go_wp2_with fail
  exact bodyPost_ret (v := .tuple #[.agg #[.bool (sg z), .slice A1 n1 c1, .slice D1 m1 d1], .int .i64 0]) (by simp [results, Try.results79, go_sem, x0, x1, x2]) rfl EE.out

end Go.Proofs.Ytcbbacnhnaopmaa
