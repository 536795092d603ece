/- RinA: Rin1, Rin2, Rin3, Rin4, Rin5, Rin6, Rin7, Rin8, Rin9 in one text. -/
import Derived.Test.YtdbccidlnhjfhaaGreatDoorIntA
import Derived.Test.YtdbccidlnhjfhaaGreatDoorRefT
import Derived.Test.YtdbccidlnhjfhaaGreatDoorAid
namespace Go.Proofs.YtdbccidlnhjfhaaGreatDoor
open Go.RowKit
theorem PreP.end_ {w W : World} {z : Int} {A : Option Addr} {n c : Nat} (h : PreP w W) (r : Rd W A n c (dg z.natAbs)) :
    RetInt w z (.returned (.agg #[.bool (sg z), .slice A n c])) ((W.setCell ⟨w.heap.size, 0, none⟩ (.bool (sg z))).setCell ⟨w.heap.size, 1, none⟩ (.slice A n c)) :=
  ret_int_end r h.res h.bel (Nat.le_refl _)
theorem iv_natAbs (g : Bool) (xs : List Nat) : (iv g xs).natAbs = val xs := by cases g <;> simp [iv]
theorem sg_iv (g : Bool) (xs : List Nat) (n : Nat) (h : (dg (val xs)).length = n) : (g && decide (0 < n)) = sg (iv g xs) := (sg_mag (b := g) h).1
set_option maxHeartbeats 1000000 in
theorem rbuild_any (g : Bool) (A : Option Addr) (n c : Nat) (xs : List Nat) (w : World) (h : Rd w A n c xs) (hn : n ≤ 2199023255552) :
    Calls Tryz.prog 122 #[.bool g, .slice A n c] w (RetInt w (iv g xs)) := by
  have P0 := hid (PreP.start w)
  have TR := hid (fun (W : World) (p : PreP w W) => rtrim_any A n c xs W (h.keep p.bel) (by omega))
  have SG := hid (fun (k : Nat) (e : (dg (val xs)).length = k) => sg_iv g xs k e)
  have NA := iv_natAbs g xs
  obtain ⟨z, hz⟩ : ∃ z, z = iv g xs := ⟨_, rfl⟩
  rw [← hz] at SG NA ⊢
  have NB := hid NA
  clear h hz NA
  rcases g with _ | _
  all_goals
    go_enter Tryz.func122, Tryz.ntmps122
    go_wp2_with fail
    refine (TR.out _ P0.out).mono ?_
    rintro e w1 ⟨v, rfl, ⟨A1, n1, c1, rfl, r1⟩, b1⟩
    have P1 := hid (P0.out.keep b1)
    have G1 := SG.out n1 r1.1
    have R1 := hid (show Rd w1 A1 n1 c1 (dg z.natAbs) from by rw [NB.out]; exact r1)
    clear r1 b1
    obtain ⟨u3, u4, u5, u6⟩ := P1.out.rcells
    rcases Nat.eq_zero_or_pos n1 with rfl | hp
    all_goals
      have G2 : sg z = _ := G1.symm
      first | (simp only [Bool.false_and] at G2) | (simp only [Bool.true_and, decide_eq_true hp] at G2) | (simp only [Bool.true_and, Nat.lt_irrefl, decide_false] at G2)
      have E1 := hid (P1.out.end_ R1.out)
      rw [G2] at E1
      clear G1 G2
      go_wp2_with fail
      exact bodyPost_ret (v := .agg #[.bool _, .slice A1 _ c1]) (by simp [results, Tryz.results122, go_sem, u3, u4]) rfl E1.out
set_option maxHeartbeats 400000 in
theorem risame_any (g1 : Bool) (A : Option Addr) (n c : Nat) (xs : List Nat) (g2 : Bool) (B : Option Addr) (m d : Nat) (ys : List Nat) (w : World) (h : Rd w A n c xs) (k : Rd w B m d ys) :
    Calls Tryz.prog 64 #[.agg #[.bool g1, .slice A n c], .agg #[.bool g2, .slice B m d]] w (RetB w (decide (g1 = g2) && decide (xs = ys))) := by
  have P0 := hid (PreC.start w g1 (.slice A n c) g2 (.slice B m d))
  have SM := hid (fun (W : World) (p : PreC w g1 (.slice A n c) g2 (.slice B m d) W) => rsame_any A B n c m d xs ys W (h.keep p.bel) (k.keep p.bel))
  obtain ⟨F, hF⟩ : ∃ F, F = decide (xs = ys) := ⟨_, rfl⟩
  rw [← hF] at SM ⊢
  clear h k hF
  by_cases e : g1 = g2
  · subst e
    rw [show (decide (g1 = g1) && F) = F from by simp]
    have hgg : (g1 == g1) = true := beq_self_eq_true g1
    go_enter Tryz.func64, Tryz.ntmps64
    go_wp2_with fail
    refine (SM.out _ P0.out).mono ?_
    rintro e w1 ⟨rfl, b1⟩
    have P1 := hid (P0.out.keep b1)
    clear b1
    go_wp2_with fail
    go_ret
    exact ⟨rfl, P1.out.bel⟩
  · rw [show (decide (g1 = g2) && F) = false from by rw [decide_eq_false e]; rfl]
    have hgg : (g1 == g2) = false := by cases g1 <;> cases g2 <;> simp_all
    go_enter Tryz.func64, Tryz.ntmps64
    go_wp2_with fail
    go_ret
    exact ⟨rfl, P0.out.bel⟩
theorem Blk.reset {w : World} {b t : Nat} {u v x y : Value} (h : Blk w b [u, v] t) : Blk ((w.setCell ⟨b, 0, none⟩ x).setCell ⟨b, 1, none⟩ y) b [x, y] t := by
  have h1 := (h.set_ 0 x).set_ 1 y
  simpa using h1
theorem dg_abs_len {g : Bool} {xs : List Nat} {n : Nat} (h : Digs xs) (hn : xs.length = n) : (dg (iv g xs).natAbs).length ≤ n := by
  rw [iv_natAbs, ← hn]
  exact dg_len_le (val_lt h)
theorem dg_mul_len {a b k : Nat} (ha : (dg a).length ≤ k) (hb : (dg b).length ≤ k) : (dg (a * b)).length ≤ k + k := by
  refine dg_len_le ?_
  have h1 := dg_len_lt a
  have h2 := dg_len_lt b
  have h3 := Nat.pow_le_pow_right (n := 4294967296) (by decide) ha
  have h4 := Nat.pow_le_pow_right (n := 4294967296) (by decide) hb
  rw [Nat.pow_add]
  exact Nat.mul_lt_mul'' (by omega) (by omega)
set_option maxHeartbeats 1000000 in
theorem rifrom_neg (z : Int) (w : World) (h1 : -9223372036854775808 ≤ z) (h2 : z < 0) :
    Calls Tryz.prog 90 #[.int .i64 z] w (RetInt w z) := by
  obtain ⟨m, hm⟩ : ∃ m : Nat, (m : Int) = -(z + 1) := ⟨(-(z + 1)).toNat, by omega⟩
  have FR := hid (fun (W : World) => rfrom_any m W (by omega))
  rw [hm] at FR
  have P0 := hid (PreP.start w)
  have l1 : (dg m).length ≤ 2 := dg_len_le (by show m < 18446744073709551616; omega)
  have l2 : (dg (m + 1)).length ≤ 2 := dg_len_le (by show m + 1 < 18446744073709551616; omega)
  have AD := hid (fun (W : World) A1 (n1 c1 : Nat) (r : Rd W A1 n1 c1 (dg m)) => radd_any A1 (some ⟨W.heap.size, 0, none⟩) n1 c1 1 1 _ [1] (W.alloc (.cells #[.int .u32 1] 127)) (r.keep ((Below.refl _ _).alloc (Nat.le_refl _) _)) (one_rd W 1 (by decide) 1 rfl) (by have := r.1; omega) (by decide))
  rw [val_dg, show val [1] = 1 from rfl] at AD
  have SN := hid (fun (W : World) A1 n1 c1 (r : Rd W A1 n1 c1 (dg (m + 1))) => rbuild_any true A1 n1 c1 _ W r (by have := r.1; omega))
  rw [show iv true (dg (m + 1)) = z from by unfold iv; rw [val_dg, if_pos rfl]; omega] at SN
  clear l1 l2 hm
  go_enter Tryz.func90, Tryz.ntmps90
  go_wp2_with fail
  refine (FR.out _).mono ?_
  rintro e w1 ⟨v, rfl, ⟨A1, n1, c1, rfl, r1⟩, b1⟩
  have P1 := hid (P0.out.keep b1)
  have AE := hid (AD.out w1 A1 n1 c1 r1)
  clear r1 b1
  go_wp2_with fail
  refine (AE.out).mono ?_
  rintro e w2 ⟨v, rfl, ⟨A2, n2, c2, rfl, r2⟩, b2⟩
  have P2 := hid (P1.out.keep ((((Below.refl w1.heap.size w1).alloc (Nat.le_refl _) (.cells #[.int .u32 1] 127))).trans (b2.mono (by simp))))
  have R2 := hid r2
  clear r2 b2
  go_wp2_with fail
  refine (SN.out w2 A2 n2 c2 R2.out).mono ?_
  rintro e w3 ⟨A3, n3, c3, rfl, r3, b3⟩
  have P3 := hid (P2.out.keep b3)
  have R3 := hid r3
  clear r3 b3
  obtain ⟨u3, u4, u5, u6⟩ := P3.out.rcells
  go_wp2_with fail
  exact bodyPost_ret (v := .agg #[.bool (sg z), .slice A3 n3 c3]) (by simp [results, Tryz.results90, go_sem, u3, u4]) rfl (P3.out.end_ R3.out)
set_option maxHeartbeats 1000000 in
theorem rifrom_pos (z : Int) (w : World) (h1 : 0 ≤ z) (h2 : z ≤ 9223372036854775807) :
    Calls Tryz.prog 90 #[.int .i64 z] w (RetInt w z) := by
  obtain ⟨m, rfl⟩ : ∃ m : Nat, z = (m : Int) := ⟨z.toNat, by omega⟩
  have FR := hid (fun (W : World) => rfrom_any m W (by omega))
  have P0 := hid (PreP.start w)
  have l1 : (dg m).length ≤ 2 := dg_len_le (by show m < 18446744073709551616; omega)
  have SN := hid (fun (W : World) A1 n1 c1 (r : Rd W A1 n1 c1 (dg m)) => rbuild_any false A1 n1 c1 _ W r (by have := r.1; omega))
  rw [show iv false (dg m) = (m : Int) from by unfold iv; rw [val_dg]; rfl] at SN
  have hw : IntKind.u64.wrap (m : Int) = (m : Int) := by
    simp only [IntKind.wrap, IntKind.bits, IntKind.signed]
    simp
    omega
  have hw2 : (m : Int) % 18446744073709551616 = (m : Int) := by omega
  obtain ⟨z, hz⟩ : ∃ z : Int, z = m := ⟨_, rfl⟩
  rw [← hz] at SN
  have hz2 := hid hz
  rw [show RetInt w (m : Int) = RetInt w z from by rw [hz]]
  clear l1 hz
  go_enter Tryz.func90, Tryz.ntmps90
  go_wp2_with fail
  refine (FR.out _).mono ?_
  rintro e w1 ⟨v, rfl, ⟨A1, n1, c1, rfl, r1⟩, b1⟩
  have P1 := hid (P0.out.keep b1)
  have R1 := hid r1
  clear r1 b1
  go_wp2_with fail
  refine (SN.out w1 A1 n1 c1 R1.out).mono ?_
  rintro e w2 ⟨A2, n2, c2, rfl, r2, b2⟩
  have P2 := hid (P1.out.keep b2)
  have R2 := hid r2
  clear r2 b2
  obtain ⟨u3, u4, u5, u6⟩ := P2.out.rcells
  go_wp2_with fail
  exact bodyPost_ret (v := .agg #[.bool (sg z), .slice A2 n2 c2]) (by simp [results, Tryz.results90, go_sem, u3, u4]) rfl (P2.out.end_ R2.out)
end Go.Proofs.YtdbccidlnhjfhaaGreatDoor
