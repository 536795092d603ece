/- IntD: Int9, Int10, Int11, Ifew, Iaid0 in one text. -/
import Derived.Test.YtdbccidlnhjfhaaGreatDoorExt
import Derived.Test.YtdbccidlnhjfhaaGreatDoorDivA
import Derived.Deep.DeepCutAuto
import Derived.Test.YtdbccidlnhjfhaaGreatDoorIntF
import Derived.Test.YtdbccidlnhjfhaaGreatDoorAid
import Derived.Test.YtdbccidlnhjfhaaGreatDoorRinA
namespace Go.Proofs.YtdbccidlnhjfhaaGreatDoor
open Go.RowKit
set_option maxRecDepth 100000
def RetQR (w : World) (z1 z2 k : Int) (e : Ending) (w' : World) : Prop := ∃ A n c B m d, e = .returned (.tuple #[.agg #[.bool (sg z1), .slice A n c], .agg #[.bool (sg z2), .slice B m d], .int .i64 k]) ∧ Rd w' A n c (dg z1.natAbs) ∧ Rd w' B m d (dg z2.natAbs) ∧ Below w.heap.size w w'
theorem retQR_drew {w W : World} {z1 z2 k : Int} {e : Ending} (h : RetQR w z1 z2 k e W) : RetQR w z1 z2 k e W.drew := by
  obtain ⟨A, n, c, B, m, d, he, r, q, b⟩ := h
  exact ⟨A, n, c, B, m, d, he, r.keep (bx_drew (bx_refl _)), q.keep (bx_drew (bx_refl _)), bx_drew b⟩
structure Pre4 (w : World) (g1 : Bool) (s1 : Value) (g2 : Bool) (s2 : Value) (W : World) : Prop where
  arg1 : Blk W w.heap.size [.bool g1, s1] 39
  arg2 : Blk W (w.heap.size + 1) [.bool g2, s2] 39
  res1 : Blk W (w.heap.size + 1 + 1) [.bool false, .slice none 0 0] 39
  res2 : Blk W (w.heap.size + 1 + 1 + 1) [.bool false, .slice none 0 0] 39
  bel : Below w.heap.size w W
section
variable {w W W' : World} {g1 g2 : Bool} {s1 s2 : Value}
theorem Pre4.start (w : World) (g1 : Bool) (s1 : Value) (g2 : Bool) (s2 : Value) : Pre4 w g1 s1 g2 s2 ((((w.alloc (.cells #[.bool g1, s1] 39)).alloc (.cells #[.bool g2, s2] 39)).alloc (.cells #[.bool false, .slice none 0 0] 39)).alloc (.cells #[.bool false, .slice none 0 0] 39)) :=
  have h := Pre2.start w g1 s1 g2 s2
  ⟨h.arg1.alloc _, h.arg2.alloc _, h.res.alloc _,
   by have h := Blk.new (((w.alloc (.cells #[.bool g1, s1] 39)).alloc (.cells #[.bool g2, s2] 39)).alloc (.cells #[.bool false, .slice none 0 0] 39)) [.bool false, .slice none 0 0] 39; simp only [World.size_alloc] at h; exact h,
   h.bel.alloc h.bel.size _⟩
theorem Pre4.keep (h : Pre4 w g1 s1 g2 s2 W) (k : Below W.heap.size W W') : Pre4 w g1 s1 g2 s2 W' :=
  ⟨h.arg1.below k h.arg1.lt, h.arg2.below k h.arg2.lt, h.res1.below k h.res1.lt, h.res2.below k h.res2.lt, h.bel.trans (k.mono h.bel.size)⟩
theorem Pre4.cells (h : Pre4 w g1 s1 g2 s2 W) : W.cell? ⟨w.heap.size, 0, none⟩ = some (.bool g1) ∧ W.cell? ⟨w.heap.size, 1, none⟩ = some s1 ∧ W.cell? ⟨w.heap.size + 1, 0, none⟩ = some (.bool g2) ∧ W.cell? ⟨w.heap.size + 1, 1, none⟩ = some s2 :=
  ⟨Blk.cell h.arg1 0, Blk.cell h.arg1 1, Blk.cell h.arg2 0, Blk.cell h.arg2 1⟩
theorem Pre4.rcells (h : Pre4 w g1 s1 g2 s2 W) : W.cell? ⟨w.heap.size + 1 + 1, 0, none⟩ = some (.bool false) ∧ W.cell? ⟨w.heap.size + 1 + 1, 1, none⟩ = some (.slice none 0 0) ∧ W.frozen? ⟨w.heap.size + 1 + 1, 0, none⟩ = false ∧ W.frozen? ⟨w.heap.size + 1 + 1, 1, none⟩ = false ∧ W.cell? ⟨w.heap.size + 1 + 1 + 1, 0, none⟩ = some (.bool false) ∧ W.cell? ⟨w.heap.size + 1 + 1 + 1, 1, none⟩ = some (.slice none 0 0) ∧ W.frozen? ⟨w.heap.size + 1 + 1 + 1, 0, none⟩ = false ∧ W.frozen? ⟨w.heap.size + 1 + 1 + 1, 1, none⟩ = false :=
  ⟨Blk.cell h.res1 0, Blk.cell h.res1 1, Blk.free h.res1 0, Blk.free h.res1 1, Blk.cell h.res2 0, Blk.cell h.res2 1, Blk.free h.res2 0, Blk.free h.res2 1⟩
theorem Pre4.end_ {z1 z2 k : Int} {A B : Option Addr} {n c m d : Nat} (h : Pre4 w g1 s1 g2 s2 W) (r : Rd W A n c (dg z1.natAbs)) (q : Rd W B m d (dg z2.natAbs)) :
    RetQR w z1 z2 k (.returned (.tuple #[.agg #[.bool (sg z1), .slice A n c], .agg #[.bool (sg z2), .slice B m d], .int .i64 k])) ((((W.setCell ⟨w.heap.size + 1 + 1, 0, none⟩ (.bool (sg z1))).setCell ⟨w.heap.size + 1 + 1, 1, none⟩ (.slice A n c)).setCell ⟨w.heap.size + 1 + 1 + 1, 0, none⟩ (.bool (sg z2))).setCell ⟨w.heap.size + 1 + 1 + 1, 1, none⟩ (.slice B m d)) :=
  have h2 := (h.res2.far (g := w.heap.size + 1 + 1) (i := 0) (by omega) (.bool (sg z1))).far (g := w.heap.size + 1 + 1) (i := 1) (by omega) (.slice A n c)
  ⟨A, n, c, B, m, d, rfl, rd_cell_far (rd_cell_far r h.res1 _ _) h2 _ _, rd_cell_far (rd_cell_far q h.res1 _ _) h2 _ _,
   (((h.bel.setCell (by show w.heap.size ≤ w.heap.size + 1 + 1; omega) _).setCell (by show w.heap.size ≤ w.heap.size + 1 + 1; omega) _).setCell (by show w.heap.size ≤ w.heap.size + 1 + 1 + 1; omega) _).setCell (by show w.heap.size ≤ w.heap.size + 1 + 1 + 1; omega) _⟩
end
theorem iquo1_any (g : Bool) (s : Value) (w : World) : Calls Tryz.prog 186 #[.agg #[.bool g, s]] w (RetB w false) := by
  have B := hid ((Below.refl w.heap.size w).alloc (Nat.le_refl _) (.cells #[.bool g, s] 39))
  go_enter Tryz.func186, Tryz.ntmps186
  go_wp2_with fail
  go_ret
  exact ⟨rfl, B.out⟩
theorem tdiv_sign (g1 g2 : Bool) (X Y : Nat) : (if (g1 != g2) = true then -((X / Y : Nat) : Int) else ((X / Y : Nat) : Int)) = (if g1 then -(X : Int) else X).tdiv (if g2 then -(Y : Int) else Y) := by
  cases g1 <;> cases g2 <;> simp [Int.neg_tdiv, Int.tdiv_neg]
theorem tmod_sign (g1 g2 : Bool) (X Y : Nat) : (if g1 = true then -((X % Y : Nat) : Int) else ((X % Y : Nat) : Int)) = (if g1 then -(X : Int) else X).tmod (if g2 then -(Y : Int) else Y) := by
  have h : ((X % Y : Nat) : Int) = (X : Int).tmod Y := rfl
  cases g1 <;> cases g2 <;> simp only [Bool.false_eq_true, if_false, if_true, Int.neg_tmod, Int.tmod_neg, h]
set_option maxHeartbeats 8000000 in
theorem idivide_quo (g1 : Bool) (A : Option Addr) (n c : Nat) (xs : List Nat) (g2 : Bool) (B : Option Addr) (m d : Nat) (ys : List Nat) (w : World) (h : Rd w A n c xs) (hn : n ≤ 1099511627776) (k : Rd w B m d ys) (hm : m ≤ 1099511627776) (hy : 0 < val ys) :
    Calls Tryz.prog 148 #[.agg #[.bool g1, .slice A n c], .agg #[.bool g2, .slice B m d], .func (.func 186) #[] #[]] w (RetQR w (iv g1 xs |>.tdiv (iv g2 ys)) (iv g1 xs |>.tmod (iv g2 ys)) 0) := by
  have P0 := hid (Pre4.start w g1 (.slice A n c) g2 (.slice B m d))
  have DM := hid (fun (W : World) (p : Pre4 w g1 (.slice A n c) g2 (.slice B m d) W) => divMod_any A B n c m d xs ys W (h.keep p.bel) (k.keep p.bel) hn hm)
  rw [show quoD (val xs) (val ys) = dg (val xs / val ys) from by unfold quoD; rw [if_neg (by omega)], show remD (val xs) (val ys) = dg (val xs % val ys) from by unfold remD; rw [if_neg (by omega)], show divE (val ys) = 0 from by unfold divE; rw [if_neg (by omega)]] at DM
  have S1 := hid (fun (W : World) A1 n1 c1 (r : Rd W A1 n1 c1 (dg (val xs / val ys))) => signed_nat (g1 != g2) A1 n1 c1 (val xs / val ys) W r)
  have S2 := hid (fun (W : World) A1 n1 c1 (r : Rd W A1 n1 c1 (dg (val xs % val ys))) => signed_nat g1 A1 n1 c1 (val xs % val ys) W r)
  have e1 : (if (g1 != g2) = true then -((val xs / val ys : Nat) : Int) else ((val xs / val ys : Nat) : Int)) = (iv g1 xs).tdiv (iv g2 ys) := by
    exact tdiv_sign g1 g2 _ _
  have e2 : (if g1 = true then -((val xs % val ys : Nat) : Int) else ((val xs % val ys : Nat) : Int)) = (iv g1 xs).tmod (iv g2 ys) := by
    exact tmod_sign g1 g2 _ _
  obtain ⟨z1, hz1⟩ : ∃ z, z = (iv g1 xs).tdiv (iv g2 ys) := ⟨_, rfl⟩
  obtain ⟨z2, hz2⟩ : ∃ z, z = (iv g1 xs).tmod (iv g2 ys) := ⟨_, rfl⟩
  rw [e1, ← hz1] at S1
  rw [e2, ← hz2] at S2
  rw [← hz1, ← hz2]
  obtain ⟨s1, s2, s3, s4⟩ := P0.out.cells
  clear h k hz1 hz2 e1 e2
  go_enter Tryz.func148, Tryz.ntmps148
  go_wp2_with fail
  refine (DM.out _ P0.out).mono ?_
  rintro e w1 ⟨v, u, rfl, ⟨A1, n1, c1, rfl, r1⟩, ⟨A2, n2, c2, rfl, r2⟩, b1⟩
  have P1 := hid (P0.out.keep b1)
  have R1 := hid r1
  have R2 := hid r2
  clear r1 r2 b1 DM s1 s2 s3 s4 P0
  have z1w : w.heap.size + 1 + 1 + 1 < w1.heap.size := P1.out.res2.lt
  have T1 := hid P1.out.cells
  have C0 := hid (fun (W : World) (hw : Below w1.heap.size w1 W) => S1.out W A1 n1 c1 (R1.out.keep hw))
  have C1 := hid (fun (W : World) (hw : Below w1.heap.size w1 W) => S2.out W A2 n2 c2 (R2.out.keep hw))
  clear S1 S2 R1 R2
  go_wp2_with fail
  go_upto_region 4 with fail
  go_cut [12, 13] (fun s12 s13 wx => ∃ (p q : Nat) (A3 : Option Addr) (n3 c3 : Nat) (A4 : Option Addr) (n4 c4 : Nat), s12 = .pointer (some ⟨p, 0, none⟩) ∧ s13 = .pointer (some ⟨q, 0, none⟩) ∧ w.heap.size + 1 + 1 + 1 < p ∧ w.heap.size + 1 + 1 + 1 < q ∧ Hid (Two z1 z2 p q A3 n3 c3 A4 n4 c4 wx ∧ Pre4 w g1 (.slice A n c) g2 (.slice B m d) wx))
  case first =>
   refine wp_region_noPanic ?_
   refine wp_region_held_drew (S := (fun W => W.cell? ⟨w.heap.size, 0, none⟩ = some (.bool g1) ∧ W.cell? ⟨w.heap.size + 1, 0, none⟩ = some (.bool g2))) (by kernel_rfl) ?_ (fun hH => ?_)
   exact ⟨T1.out.1, T1.out.2.2.1⟩
   refine wpAnyH_take (i := 0) (v := ?_) (by simp only [gx0, gx2]; rfl) (by kernel_rfl) (by kernel_rfl) (by kernel_rfl) (fun _ _ _ h => h) (.inl ⟨by rfl, ?_⟩) hH ?_
   rotate_left
   · intro w hSw; (try dsimp only at hSw); first | (go_simp; done) | (go_simp; with_reducible rfl)
   (try simp only [Act.put, gy0, gy1, gy2])
   refine wpAnyH_take (i := 1) (v := ?_) (by simp only [gx0, gx1, gx2]; rfl) (by kernel_rfl) (by kernel_rfl) (by kernel_rfl) (fun _ _ _ h => h) (.inl ⟨by rfl, ?_⟩) hH ?_
   rotate_left
   · intro w hSw; (try dsimp only at hSw); first | (go_simp; done) | (go_simp; with_reducible rfl)
   (try simp only [Act.put, gy0, gy1, gy2])
   refine wpAnyH_take (i := 2) (v := ?_) (by simp only [gx0, gx1, gx2]; rfl) (by kernel_rfl) (by kernel_rfl) (by kernel_rfl) (fun _ _ _ h => h) (.inl ⟨by rfl, ?_⟩) hH ?_
   rotate_left
   · intro w hSw; (try dsimp only at hSw); first | (go_simp; done) | (go_simp; with_reducible rfl)
   (try simp only [Act.put, gy0, gy1, gy2])
   refine wpAnyH_take (i := 3) (v := ?_) (by simp only [gx0, gx1, gx2]; rfl) (by kernel_rfl) (by kernel_rfl) (by kernel_rfl) (fun _ _ _ h => h) (.inl ⟨by rfl, ?_⟩) hH ?_
   rotate_left
   · intro w hSw; (try dsimp only at hSw); first | (go_simp; done) | (go_simp; with_reducible rfl)
   (try simp only [Act.put, gy0, gy1, gy2])
   refine wpAnyH_take (i := 4) (v := ?_) (by simp only [gx0, gx1, gx2]; rfl) (by kernel_rfl) (by kernel_rfl) (by kernel_rfl) (fun _ _ _ h => h) (.inl ⟨by rfl, ?_⟩) hH ?_
   rotate_left
   · intro w hSw; (try dsimp only at hSw); first | (go_simp; done) | (go_simp; with_reducible rfl)
   (try simp only [Act.put, gy0, gy1, gy2])
   refine wpAnyH_take (i := 5) (v := ?_) (by simp only [gx0, gx1, gx2]; rfl) (by kernel_rfl) (by kernel_rfl) (by kernel_rfl) (fun _ _ _ h => h) (.inl ⟨by rfl, ?_⟩) hH ?_
   rotate_left
   · intro w hSw; (try dsimp only at hSw); first | (go_simp; done) | (go_simp; with_reducible rfl)
   (try simp only [Act.put, gy0, gy1, gy2])
   refine wpAnyH_take (i := 7) (v := ?_) (by simp only [gx0, gx1, gx2]; rfl) (by kernel_rfl) (by kernel_rfl) (by kernel_rfl) (fun _ _ _ h => h) (.inl ⟨by rfl, ?_⟩) hH ?_
   rotate_left
   · intro w hSw; (try dsimp only at hSw); first | (go_simp; done) | (go_simp; with_reducible rfl)
   (try simp only [Act.put, gy0, gy1, gy2])
   refine wpAnyH_take (i := 8) (v := ?_) (by simp only [gx0, gx1, gx2]; rfl) (by kernel_rfl) (by kernel_rfl) (by kernel_rfl) (fun _ _ _ h => h) (.inl ⟨by rfl, ?_⟩) hH ?_
   rotate_left
   · intro w hSw; (try dsimp only at hSw); first | (go_simp; done) | (go_simp; with_reducible rfl)
   (try simp only [Act.put, gy0, gy1, gy2])
   refine wpAnyH_take (i := 9) (v := ?_) (by simp only [gx0, gx1, gx2]; rfl) (by kernel_rfl) (by kernel_rfl) (by kernel_rfl) (fun _ _ _ h => h) (.inl ⟨by rfl, ?_⟩) hH ?_
   rotate_left
   · intro w hSw; (try dsimp only at hSw); first | (go_simp; done) | (go_simp; with_reducible rfl)
   (try simp only [Act.put, gy0, gy1, gy2])
   have bd := bx_drew (bx_refl w1)
   obtain ⟨W0, hW0⟩ : ∃ W, W = w1.drew := ⟨_, rfl⟩
   rw [← hW0] at bd hH ⊢
   clear hW0
   have BW_0 := hid bd
   clear bd
   refine wpAnyH_ready (rs := [6, 11, 12]) (by kernel_rfl) (by simp) ?_
   refine AllReadyH.cons (by simp only [gx0, gx1, gx2]; rfl) (fun K hK => ?_) ?_
   go_simp
   refine (C0.out _ BW_0.out).mono ?_
   rintro e W1 ⟨A3, n3, c3, rfl, r3, b⟩
   have R3 := hid r3
   clear r3
   have BW_1 := hid (bx_call BW_0.out b)
   clear BW_0
   have H2 := And.intro (cell_bx hH.1 b) (cell_bx hH.2 b)
   clear hH b
   (try go_wp2_with fail)
   refine hK.out _ _ ?_ (fun hH => ?_)
   exact H2
   clear hK K H2
   (try simp only [Act.put, gy0, gy1, gy2])
   refine wpAnyH_ready (rs := [10, 11, 12]) (by kernel_rfl) (by simp) ?_
   refine AllReadyH.cons (by simp only [gx0, gx1, gx2]; rfl) (fun K hK => ?_) ?_
   go_simp
   refine (C1.out _ BW_1.out).mono ?_
   rintro e W2 ⟨A4, n4, c4, rfl, r4, b⟩
   have R4 := hid r4
   clear r4
   have R3_2 := hid (R3.out.keep b)
   have BW_2 := hid (bx_call BW_1.out b)
   clear R3 BW_1
   have H2 := And.intro (cell_bx hH.1 b) (cell_bx hH.2 b)
   clear hH b
   (try go_wp2_with fail)
   refine hK.out _ _ ?_ (fun hH => ?_)
   exact H2
   clear hK K H2
   (try simp only [Act.put, gy0, gy1, gy2])
   refine wpAnyH_ready (rs := [11, 12]) (by kernel_rfl) (by simp) ?_
   refine AllReadyH.cons (by simp only [gx0, gx1, gx2]; rfl) (fun K hK => ?_) ?_
   go_simp
   obtain ⟨W3, p, hW, hp, b, kk⟩ := mk_int W2
   have gp : w1.heap.size ≤ p := by rw [hp]; exact BW_2.out.size
   rw [← hW, ← hp]
   clear hW hp
   have Kp := hid kk
   clear kk
   have R3_3 := hid (R3_2.out.keep b)
   have R4_3 := hid (R4.out.keep b)
   have BW_3 := hid (bx_call BW_2.out b)
   clear R3_2 R4 BW_2
   have H2 := And.intro (cell_bx hH.1 b) (cell_bx hH.2 b)
   clear hH b
   refine hK.out _ _ ?_ (fun hH => ?_)
   exact H2
   clear hK K H2
   (try simp only [Act.put, gy0, gy1, gy2])
   refine wpAnyH_ready (rs := [12]) (by kernel_rfl) (by simp) ?_
   refine AllReadyH.cons (by simp only [gx0, gx1, gx2]; rfl) (fun K hK => ?_) ?_
   go_simp
   obtain ⟨W4, q, hW, hp, b, kk⟩ := mk_int W3
   have gq : w1.heap.size ≤ q := by rw [hp]; exact BW_3.out.size
   have ne : p ≠ q := by rw [hp]; exact Nat.ne_of_lt Kp.out.lt
   rw [← hW, ← hp]
   clear hW hp
   have Kq := hid kk
   clear kk
   have R3_4 := hid (R3_3.out.keep b)
   have R4_4 := hid (R4_3.out.keep b)
   have Kp_4 := hid (Kp.out.keep b)
   have BW_4 := hid (bx_call BW_3.out b)
   clear R3_3 R4_3 Kp BW_3
   have H2 := And.intro (cell_bx hH.1 b) (cell_bx hH.2 b)
   clear hH b
   refine hK.out _ _ ?_ (fun hH => ?_)
   exact H2
   clear hK K H2
   (try simp only [Act.put, gy0, gy1, gy2])
   have ne2 := Ne.symm ne
   have TM := hid (two_made (z1 := z1) (z2 := z2) BW_4.out gp gq ne rfl rfl Kp_4.out Kq.out R3_4.out R4_4.out)
   have o1 : w.heap.size ≠ p := by omega
   have o2 : w.heap.size + 1 ≠ p := by omega
   have o3 : w.heap.size ≠ q := by omega
   have o4 : w.heap.size + 1 ≠ q := by omega
   have O := hid (And.intro o1 (And.intro o2 (And.intro o3 o4)))
   clear o1 o2 o3 o4
   obtain ⟨a1, a2, a3, a4, _⟩ := blk_facts Kp_4.out
   obtain ⟨d1, d2, d3, d4, _⟩ := blk_facts Kq.out
   refine wpAnyH_ready (rs := [13]) (by kernel_rfl) (by simp) ?_
   refine AllReadyH.cons (by simp only [gx0, gx1, gx2]; rfl) (fun K hK => ?_) AllReadyH.nil
   go_simp
   refine hK.out _ _ (And.intro (cell_fr (cell_fr hH.1 O.out.1) O.out.1) (cell_fr (cell_fr hH.2 O.out.2.1) O.out.2.1)) (fun hH2 => ?_)
   clear hK K hH
   (try simp only [Act.put, gy0, gy1, gy2])
   refine wpAnyH_ready (rs := [14]) (by kernel_rfl) (by simp) ?_
   refine AllReadyH.cons (by simp only [gx0, gx1, gx2]; rfl) (fun K hK => ?_) AllReadyH.nil
   go_simp
   refine hK.out _ _ (And.intro (cell_fr (cell_fr hH2.1 O.out.2.2.1) O.out.2.2.1) (cell_fr (cell_fr hH2.2 O.out.2.2.2) O.out.2.2.2)) (fun hH => ?_)
   clear hK K hH hH2 a1 a2 a3 a4 d1 d2 d3 d4
   refine wpAnyH_done (by kernel_rfl) ?_ _
   refine NoPanic.normal ?_
   go_wp2_with fail
   go_meet
   exact ⟨p, q, A3, n3, c3, A4, n4, c4, rfl, rfl, by omega, by omega, hid ⟨TM.out.1, P1.out.keep TM.out.2⟩⟩
   exact AllReadyH.nil
   refine AllReadyH.cons (by simp only [gx0, gx1, gx2]; rfl) (fun K hK => ?_) ?_
   go_simp
   obtain ⟨W3, q, hW, hp, b, kk⟩ := mk_int W2
   have gq : w1.heap.size ≤ q := by rw [hp]; exact BW_2.out.size
   rw [← hW, ← hp]
   clear hW hp
   have Kq := hid kk
   clear kk
   have R3_3 := hid (R3_2.out.keep b)
   have R4_3 := hid (R4.out.keep b)
   have BW_3 := hid (bx_call BW_2.out b)
   clear R3_2 R4 BW_2
   have H2 := And.intro (cell_bx hH.1 b) (cell_bx hH.2 b)
   clear hH b
   refine hK.out _ _ ?_ (fun hH => ?_)
   exact H2
   clear hK K H2
   (try simp only [Act.put, gy0, gy1, gy2])
   refine wpAnyH_ready (rs := [11]) (by kernel_rfl) (by simp) ?_
   refine AllReadyH.cons (by simp only [gx0, gx1, gx2]; rfl) (fun K hK => ?_) ?_
   go_simp
   obtain ⟨W4, p, hW, hp, b, kk⟩ := mk_int W3
   have gp : w1.heap.size ≤ p := by rw [hp]; exact BW_3.out.size
   have ne : p ≠ q := by rw [hp]; exact Nat.ne_of_gt Kq.out.lt
   rw [← hW, ← hp]
   clear hW hp
   have Kp := hid kk
   clear kk
   have R3_4 := hid (R3_3.out.keep b)
   have R4_4 := hid (R4_3.out.keep b)
   have Kq_4 := hid (Kq.out.keep b)
   have BW_4 := hid (bx_call BW_3.out b)
   clear R3_3 R4_3 Kq BW_3
   have H2 := And.intro (cell_bx hH.1 b) (cell_bx hH.2 b)
   clear hH b
   refine hK.out _ _ ?_ (fun hH => ?_)
   exact H2
   clear hK K H2
   (try simp only [Act.put, gy0, gy1, gy2])
   have ne2 := Ne.symm ne
   have TM := hid (two_made (z1 := z1) (z2 := z2) BW_4.out gp gq ne rfl rfl Kp.out Kq_4.out R3_4.out R4_4.out)
   have o1 : w.heap.size ≠ p := by omega
   have o2 : w.heap.size + 1 ≠ p := by omega
   have o3 : w.heap.size ≠ q := by omega
   have o4 : w.heap.size + 1 ≠ q := by omega
   have O := hid (And.intro o1 (And.intro o2 (And.intro o3 o4)))
   clear o1 o2 o3 o4
   obtain ⟨a1, a2, a3, a4, _⟩ := blk_facts Kp.out
   obtain ⟨d1, d2, d3, d4, _⟩ := blk_facts Kq_4.out
   refine wpAnyH_ready (rs := [13]) (by kernel_rfl) (by simp) ?_
   refine AllReadyH.cons (by simp only [gx0, gx1, gx2]; rfl) (fun K hK => ?_) AllReadyH.nil
   go_simp
   refine hK.out _ _ (And.intro (cell_fr (cell_fr hH.1 O.out.1) O.out.1) (cell_fr (cell_fr hH.2 O.out.2.1) O.out.2.1)) (fun hH2 => ?_)
   clear hK K hH
   (try simp only [Act.put, gy0, gy1, gy2])
   refine wpAnyH_ready (rs := [14]) (by kernel_rfl) (by simp) ?_
   refine AllReadyH.cons (by simp only [gx0, gx1, gx2]; rfl) (fun K hK => ?_) AllReadyH.nil
   go_simp
   refine hK.out _ _ (And.intro (cell_fr (cell_fr hH2.1 O.out.2.2.1) O.out.2.2.1) (cell_fr (cell_fr hH2.2 O.out.2.2.2) O.out.2.2.2)) (fun hH => ?_)
   clear hK K hH hH2 a1 a2 a3 a4 d1 d2 d3 d4
   refine wpAnyH_done (by kernel_rfl) ?_ _
   refine NoPanic.normal ?_
   go_wp2_with fail
   go_meet
   exact ⟨p, q, A3, n3, c3, A4, n4, c4, rfl, rfl, by omega, by omega, hid ⟨TM.out.1, P1.out.keep TM.out.2⟩⟩
   exact AllReadyH.nil
   exact AllReadyH.nil
   refine AllReadyH.cons (by simp only [gx0, gx1, gx2]; rfl) (fun K hK => ?_) ?_
   go_simp
   obtain ⟨W2, p, hW, hp, b, kk⟩ := mk_int W1
   have gp : w1.heap.size ≤ p := by rw [hp]; exact BW_1.out.size
   rw [← hW, ← hp]
   clear hW hp
   have Kp := hid kk
   clear kk
   have R3_2 := hid (R3.out.keep b)
   have BW_2 := hid (bx_call BW_1.out b)
   clear R3 BW_1
   have H2 := And.intro (cell_bx hH.1 b) (cell_bx hH.2 b)
   clear hH b
   refine hK.out _ _ ?_ (fun hH => ?_)
   exact H2
   clear hK K H2
   (try simp only [Act.put, gy0, gy1, gy2])
   refine wpAnyH_ready (rs := [10, 12]) (by kernel_rfl) (by simp) ?_
   refine AllReadyH.cons (by simp only [gx0, gx1, gx2]; rfl) (fun K hK => ?_) ?_
   go_simp
   refine (C1.out _ BW_2.out).mono ?_
   rintro e W3 ⟨A4, n4, c4, rfl, r4, b⟩
   have R4 := hid r4
   clear r4
   have R3_3 := hid (R3_2.out.keep b)
   have Kp_3 := hid (Kp.out.keep b)
   have BW_3 := hid (bx_call BW_2.out b)
   clear R3_2 Kp BW_2
   have H2 := And.intro (cell_bx hH.1 b) (cell_bx hH.2 b)
   clear hH b
   (try go_wp2_with fail)
   refine hK.out _ _ ?_ (fun hH => ?_)
   exact H2
   clear hK K H2
   (try simp only [Act.put, gy0, gy1, gy2])
   refine wpAnyH_ready (rs := [12]) (by kernel_rfl) (by simp) ?_
   refine AllReadyH.cons (by simp only [gx0, gx1, gx2]; rfl) (fun K hK => ?_) ?_
   go_simp
   obtain ⟨W4, q, hW, hp, b, kk⟩ := mk_int W3
   have gq : w1.heap.size ≤ q := by rw [hp]; exact BW_3.out.size
   have ne : p ≠ q := by rw [hp]; exact Nat.ne_of_lt Kp_3.out.lt
   rw [← hW, ← hp]
   clear hW hp
   have Kq := hid kk
   clear kk
   have R3_4 := hid (R3_3.out.keep b)
   have Kp_4 := hid (Kp_3.out.keep b)
   have R4_4 := hid (R4.out.keep b)
   have BW_4 := hid (bx_call BW_3.out b)
   clear R3_3 Kp_3 R4 BW_3
   have H2 := And.intro (cell_bx hH.1 b) (cell_bx hH.2 b)
   clear hH b
   refine hK.out _ _ ?_ (fun hH => ?_)
   exact H2
   clear hK K H2
   (try simp only [Act.put, gy0, gy1, gy2])
   have ne2 := Ne.symm ne
   have TM := hid (two_made (z1 := z1) (z2 := z2) BW_4.out gp gq ne rfl rfl Kp_4.out Kq.out R3_4.out R4_4.out)
   have o1 : w.heap.size ≠ p := by omega
   have o2 : w.heap.size + 1 ≠ p := by omega
   have o3 : w.heap.size ≠ q := by omega
   have o4 : w.heap.size + 1 ≠ q := by omega
   have O := hid (And.intro o1 (And.intro o2 (And.intro o3 o4)))
   clear o1 o2 o3 o4
   obtain ⟨a1, a2, a3, a4, _⟩ := blk_facts Kp_4.out
   obtain ⟨d1, d2, d3, d4, _⟩ := blk_facts Kq.out
   refine wpAnyH_ready (rs := [13]) (by kernel_rfl) (by simp) ?_
   refine AllReadyH.cons (by simp only [gx0, gx1, gx2]; rfl) (fun K hK => ?_) AllReadyH.nil
   go_simp
   refine hK.out _ _ (And.intro (cell_fr (cell_fr hH.1 O.out.1) O.out.1) (cell_fr (cell_fr hH.2 O.out.2.1) O.out.2.1)) (fun hH2 => ?_)
   clear hK K hH
   (try simp only [Act.put, gy0, gy1, gy2])
   refine wpAnyH_ready (rs := [14]) (by kernel_rfl) (by simp) ?_
   refine AllReadyH.cons (by simp only [gx0, gx1, gx2]; rfl) (fun K hK => ?_) AllReadyH.nil
   go_simp
   refine hK.out _ _ (And.intro (cell_fr (cell_fr hH2.1 O.out.2.2.1) O.out.2.2.1) (cell_fr (cell_fr hH2.2 O.out.2.2.2) O.out.2.2.2)) (fun hH => ?_)
   clear hK K hH hH2 a1 a2 a3 a4 d1 d2 d3 d4
   refine wpAnyH_done (by kernel_rfl) ?_ _
   refine NoPanic.normal ?_
   go_wp2_with fail
   go_meet
   exact ⟨p, q, A3, n3, c3, A4, n4, c4, rfl, rfl, by omega, by omega, hid ⟨TM.out.1, P1.out.keep TM.out.2⟩⟩
   exact AllReadyH.nil
   refine AllReadyH.cons (by simp only [gx0, gx1, gx2]; rfl) (fun K hK => ?_) ?_
   go_simp
   obtain ⟨W3, q, hW, hp, b, kk⟩ := mk_int W2
   have gq : w1.heap.size ≤ q := by rw [hp]; exact BW_2.out.size
   have ne : p ≠ q := by rw [hp]; exact Nat.ne_of_lt Kp.out.lt
   rw [← hW, ← hp]
   clear hW hp
   have Kq := hid kk
   clear kk
   have R3_3 := hid (R3_2.out.keep b)
   have Kp_3 := hid (Kp.out.keep b)
   have BW_3 := hid (bx_call BW_2.out b)
   clear R3_2 Kp BW_2
   have H2 := And.intro (cell_bx hH.1 b) (cell_bx hH.2 b)
   clear hH b
   refine hK.out _ _ ?_ (fun hH => ?_)
   exact H2
   clear hK K H2
   (try simp only [Act.put, gy0, gy1, gy2])
   refine wpAnyH_ready (rs := [10]) (by kernel_rfl) (by simp) ?_
   refine AllReadyH.cons (by simp only [gx0, gx1, gx2]; rfl) (fun K hK => ?_) ?_
   go_simp
   refine (C1.out _ BW_3.out).mono ?_
   rintro e W4 ⟨A4, n4, c4, rfl, r4, b⟩
   have R4 := hid r4
   clear r4
   have R3_4 := hid (R3_3.out.keep b)
   have Kp_4 := hid (Kp_3.out.keep b)
   have Kq_4 := hid (Kq.out.keep b)
   have BW_4 := hid (bx_call BW_3.out b)
   clear R3_3 Kp_3 Kq BW_3
   have H2 := And.intro (cell_bx hH.1 b) (cell_bx hH.2 b)
   clear hH b
   (try go_wp2_with fail)
   refine hK.out _ _ ?_ (fun hH => ?_)
   exact H2
   clear hK K H2
   (try simp only [Act.put, gy0, gy1, gy2])
   have ne2 := Ne.symm ne
   have TM := hid (two_made (z1 := z1) (z2 := z2) BW_4.out gp gq ne rfl rfl Kp_4.out Kq_4.out R3_4.out R4.out)
   have o1 : w.heap.size ≠ p := by omega
   have o2 : w.heap.size + 1 ≠ p := by omega
   have o3 : w.heap.size ≠ q := by omega
   have o4 : w.heap.size + 1 ≠ q := by omega
   have O := hid (And.intro o1 (And.intro o2 (And.intro o3 o4)))
   clear o1 o2 o3 o4
   obtain ⟨a1, a2, a3, a4, _⟩ := blk_facts Kp_4.out
   obtain ⟨d1, d2, d3, d4, _⟩ := blk_facts Kq_4.out
   refine wpAnyH_ready (rs := [13]) (by kernel_rfl) (by simp) ?_
   refine AllReadyH.cons (by simp only [gx0, gx1, gx2]; rfl) (fun K hK => ?_) AllReadyH.nil
   go_simp
   refine hK.out _ _ (And.intro (cell_fr (cell_fr hH.1 O.out.1) O.out.1) (cell_fr (cell_fr hH.2 O.out.2.1) O.out.2.1)) (fun hH2 => ?_)
   clear hK K hH
   (try simp only [Act.put, gy0, gy1, gy2])
   refine wpAnyH_ready (rs := [14]) (by kernel_rfl) (by simp) ?_
   refine AllReadyH.cons (by simp only [gx0, gx1, gx2]; rfl) (fun K hK => ?_) AllReadyH.nil
   go_simp
   refine hK.out _ _ (And.intro (cell_fr (cell_fr hH2.1 O.out.2.2.1) O.out.2.2.1) (cell_fr (cell_fr hH2.2 O.out.2.2.2) O.out.2.2.2)) (fun hH => ?_)
   clear hK K hH hH2 a1 a2 a3 a4 d1 d2 d3 d4
   refine wpAnyH_done (by kernel_rfl) ?_ _
   refine NoPanic.normal ?_
   go_wp2_with fail
   go_meet
   exact ⟨p, q, A3, n3, c3, A4, n4, c4, rfl, rfl, by omega, by omega, hid ⟨TM.out.1, P1.out.keep TM.out.2⟩⟩
   exact AllReadyH.nil
   exact AllReadyH.nil
   refine AllReadyH.cons (by simp only [gx0, gx1, gx2]; rfl) (fun K hK => ?_) ?_
   go_simp
   obtain ⟨W2, q, hW, hp, b, kk⟩ := mk_int W1
   have gq : w1.heap.size ≤ q := by rw [hp]; exact BW_1.out.size
   rw [← hW, ← hp]
   clear hW hp
   have Kq := hid kk
   clear kk
   have R3_2 := hid (R3.out.keep b)
   have BW_2 := hid (bx_call BW_1.out b)
   clear R3 BW_1
   have H2 := And.intro (cell_bx hH.1 b) (cell_bx hH.2 b)
   clear hH b
   refine hK.out _ _ ?_ (fun hH => ?_)
   exact H2
   clear hK K H2
   (try simp only [Act.put, gy0, gy1, gy2])
   refine wpAnyH_ready (rs := [10, 11]) (by kernel_rfl) (by simp) ?_
   refine AllReadyH.cons (by simp only [gx0, gx1, gx2]; rfl) (fun K hK => ?_) ?_
   go_simp
   refine (C1.out _ BW_2.out).mono ?_
   rintro e W3 ⟨A4, n4, c4, rfl, r4, b⟩
   have R4 := hid r4
   clear r4
   have R3_3 := hid (R3_2.out.keep b)
   have Kq_3 := hid (Kq.out.keep b)
   have BW_3 := hid (bx_call BW_2.out b)
   clear R3_2 Kq BW_2
   have H2 := And.intro (cell_bx hH.1 b) (cell_bx hH.2 b)
   clear hH b
   (try go_wp2_with fail)
   refine hK.out _ _ ?_ (fun hH => ?_)
   exact H2
   clear hK K H2
   (try simp only [Act.put, gy0, gy1, gy2])
   refine wpAnyH_ready (rs := [11]) (by kernel_rfl) (by simp) ?_
   refine AllReadyH.cons (by simp only [gx0, gx1, gx2]; rfl) (fun K hK => ?_) ?_
   go_simp
   obtain ⟨W4, p, hW, hp, b, kk⟩ := mk_int W3
   have gp : w1.heap.size ≤ p := by rw [hp]; exact BW_3.out.size
   have ne : p ≠ q := by rw [hp]; exact Nat.ne_of_gt Kq_3.out.lt
   rw [← hW, ← hp]
   clear hW hp
   have Kp := hid kk
   clear kk
   have R3_4 := hid (R3_3.out.keep b)
   have Kq_4 := hid (Kq_3.out.keep b)
   have R4_4 := hid (R4.out.keep b)
   have BW_4 := hid (bx_call BW_3.out b)
   clear R3_3 Kq_3 R4 BW_3
   have H2 := And.intro (cell_bx hH.1 b) (cell_bx hH.2 b)
   clear hH b
   refine hK.out _ _ ?_ (fun hH => ?_)
   exact H2
   clear hK K H2
   (try simp only [Act.put, gy0, gy1, gy2])
   have ne2 := Ne.symm ne
   have TM := hid (two_made (z1 := z1) (z2 := z2) BW_4.out gp gq ne rfl rfl Kp.out Kq_4.out R3_4.out R4_4.out)
   have o1 : w.heap.size ≠ p := by omega
   have o2 : w.heap.size + 1 ≠ p := by omega
   have o3 : w.heap.size ≠ q := by omega
   have o4 : w.heap.size + 1 ≠ q := by omega
   have O := hid (And.intro o1 (And.intro o2 (And.intro o3 o4)))
   clear o1 o2 o3 o4
   obtain ⟨a1, a2, a3, a4, _⟩ := blk_facts Kp.out
   obtain ⟨d1, d2, d3, d4, _⟩ := blk_facts Kq_4.out
   refine wpAnyH_ready (rs := [13]) (by kernel_rfl) (by simp) ?_
   refine AllReadyH.cons (by simp only [gx0, gx1, gx2]; rfl) (fun K hK => ?_) AllReadyH.nil
   go_simp
   refine hK.out _ _ (And.intro (cell_fr (cell_fr hH.1 O.out.1) O.out.1) (cell_fr (cell_fr hH.2 O.out.2.1) O.out.2.1)) (fun hH2 => ?_)
   clear hK K hH
   (try simp only [Act.put, gy0, gy1, gy2])
   refine wpAnyH_ready (rs := [14]) (by kernel_rfl) (by simp) ?_
   refine AllReadyH.cons (by simp only [gx0, gx1, gx2]; rfl) (fun K hK => ?_) AllReadyH.nil
   go_simp
   refine hK.out _ _ (And.intro (cell_fr (cell_fr hH2.1 O.out.2.2.1) O.out.2.2.1) (cell_fr (cell_fr hH2.2 O.out.2.2.2) O.out.2.2.2)) (fun hH => ?_)
   clear hK K hH hH2 a1 a2 a3 a4 d1 d2 d3 d4
   refine wpAnyH_done (by kernel_rfl) ?_ _
   refine NoPanic.normal ?_
   go_wp2_with fail
   go_meet
   exact ⟨p, q, A3, n3, c3, A4, n4, c4, rfl, rfl, by omega, by omega, hid ⟨TM.out.1, P1.out.keep TM.out.2⟩⟩
   exact AllReadyH.nil
   refine AllReadyH.cons (by simp only [gx0, gx1, gx2]; rfl) (fun K hK => ?_) ?_
   go_simp
   obtain ⟨W3, p, hW, hp, b, kk⟩ := mk_int W2
   have gp : w1.heap.size ≤ p := by rw [hp]; exact BW_2.out.size
   have ne : p ≠ q := by rw [hp]; exact Nat.ne_of_gt Kq.out.lt
   rw [← hW, ← hp]
   clear hW hp
   have Kp := hid kk
   clear kk
   have R3_3 := hid (R3_2.out.keep b)
   have Kq_3 := hid (Kq.out.keep b)
   have BW_3 := hid (bx_call BW_2.out b)
   clear R3_2 Kq BW_2
   have H2 := And.intro (cell_bx hH.1 b) (cell_bx hH.2 b)
   clear hH b
   refine hK.out _ _ ?_ (fun hH => ?_)
   exact H2
   clear hK K H2
   (try simp only [Act.put, gy0, gy1, gy2])
   refine wpAnyH_ready (rs := [10]) (by kernel_rfl) (by simp) ?_
   refine AllReadyH.cons (by simp only [gx0, gx1, gx2]; rfl) (fun K hK => ?_) ?_
   go_simp
   refine (C1.out _ BW_3.out).mono ?_
   rintro e W4 ⟨A4, n4, c4, rfl, r4, b⟩
   have R4 := hid r4
   clear r4
   have R3_4 := hid (R3_3.out.keep b)
   have Kq_4 := hid (Kq_3.out.keep b)
   have Kp_4 := hid (Kp.out.keep b)
   have BW_4 := hid (bx_call BW_3.out b)
   clear R3_3 Kq_3 Kp BW_3
   have H2 := And.intro (cell_bx hH.1 b) (cell_bx hH.2 b)
   clear hH b
   (try go_wp2_with fail)
   refine hK.out _ _ ?_ (fun hH => ?_)
   exact H2
   clear hK K H2
   (try simp only [Act.put, gy0, gy1, gy2])
   have ne2 := Ne.symm ne
   have TM := hid (two_made (z1 := z1) (z2 := z2) BW_4.out gp gq ne rfl rfl Kp_4.out Kq_4.out R3_4.out R4.out)
   have o1 : w.heap.size ≠ p := by omega
   have o2 : w.heap.size + 1 ≠ p := by omega
   have o3 : w.heap.size ≠ q := by omega
   have o4 : w.heap.size + 1 ≠ q := by omega
   have O := hid (And.intro o1 (And.intro o2 (And.intro o3 o4)))
   clear o1 o2 o3 o4
   obtain ⟨a1, a2, a3, a4, _⟩ := blk_facts Kp_4.out
   obtain ⟨d1, d2, d3, d4, _⟩ := blk_facts Kq_4.out
   refine wpAnyH_ready (rs := [13]) (by kernel_rfl) (by simp) ?_
   refine AllReadyH.cons (by simp only [gx0, gx1, gx2]; rfl) (fun K hK => ?_) AllReadyH.nil
   go_simp
   refine hK.out _ _ (And.intro (cell_fr (cell_fr hH.1 O.out.1) O.out.1) (cell_fr (cell_fr hH.2 O.out.2.1) O.out.2.1)) (fun hH2 => ?_)
   clear hK K hH
   (try simp only [Act.put, gy0, gy1, gy2])
   refine wpAnyH_ready (rs := [14]) (by kernel_rfl) (by simp) ?_
   refine AllReadyH.cons (by simp only [gx0, gx1, gx2]; rfl) (fun K hK => ?_) AllReadyH.nil
   go_simp
   refine hK.out _ _ (And.intro (cell_fr (cell_fr hH2.1 O.out.2.2.1) O.out.2.2.1) (cell_fr (cell_fr hH2.2 O.out.2.2.2) O.out.2.2.2)) (fun hH => ?_)
   clear hK K hH hH2 a1 a2 a3 a4 d1 d2 d3 d4
   refine wpAnyH_done (by kernel_rfl) ?_ _
   refine NoPanic.normal ?_
   go_wp2_with fail
   go_meet
   exact ⟨p, q, A3, n3, c3, A4, n4, c4, rfl, rfl, by omega, by omega, hid ⟨TM.out.1, P1.out.keep TM.out.2⟩⟩
   exact AllReadyH.nil
   exact AllReadyH.nil
   exact AllReadyH.nil
   refine AllReadyH.cons (by simp only [gx0, gx1, gx2]; rfl) (fun K hK => ?_) ?_
   go_simp
   obtain ⟨W1, p, hW, hp, b, kk⟩ := mk_int W0
   have gp : w1.heap.size ≤ p := by rw [hp]; exact BW_0.out.size
   rw [← hW, ← hp]
   clear hW hp
   have Kp := hid kk
   clear kk
   have BW_1 := hid (bx_call BW_0.out b)
   clear BW_0
   have H2 := And.intro (cell_bx hH.1 b) (cell_bx hH.2 b)
   clear hH b
   refine hK.out _ _ ?_ (fun hH => ?_)
   exact H2
   clear hK K H2
   (try simp only [Act.put, gy0, gy1, gy2])
   refine wpAnyH_ready (rs := [6, 12]) (by kernel_rfl) (by simp) ?_
   refine AllReadyH.cons (by simp only [gx0, gx1, gx2]; rfl) (fun K hK => ?_) ?_
   go_simp
   refine (C0.out _ BW_1.out).mono ?_
   rintro e W2 ⟨A3, n3, c3, rfl, r3, b⟩
   have R3 := hid r3
   clear r3
   have Kp_2 := hid (Kp.out.keep b)
   have BW_2 := hid (bx_call BW_1.out b)
   clear Kp BW_1
   have H2 := And.intro (cell_bx hH.1 b) (cell_bx hH.2 b)
   clear hH b
   (try go_wp2_with fail)
   refine hK.out _ _ ?_ (fun hH => ?_)
   exact H2
   clear hK K H2
   (try simp only [Act.put, gy0, gy1, gy2])
   refine wpAnyH_ready (rs := [10, 12]) (by kernel_rfl) (by simp) ?_
   refine AllReadyH.cons (by simp only [gx0, gx1, gx2]; rfl) (fun K hK => ?_) ?_
   go_simp
   refine (C1.out _ BW_2.out).mono ?_
   rintro e W3 ⟨A4, n4, c4, rfl, r4, b⟩
   have R4 := hid r4
   clear r4
   have Kp_3 := hid (Kp_2.out.keep b)
   have R3_3 := hid (R3.out.keep b)
   have BW_3 := hid (bx_call BW_2.out b)
   clear Kp_2 R3 BW_2
   have H2 := And.intro (cell_bx hH.1 b) (cell_bx hH.2 b)
   clear hH b
   (try go_wp2_with fail)
   refine hK.out _ _ ?_ (fun hH => ?_)
   exact H2
   clear hK K H2
   (try simp only [Act.put, gy0, gy1, gy2])
   refine wpAnyH_ready (rs := [12]) (by kernel_rfl) (by simp) ?_
   refine AllReadyH.cons (by simp only [gx0, gx1, gx2]; rfl) (fun K hK => ?_) ?_
   go_simp
   obtain ⟨W4, q, hW, hp, b, kk⟩ := mk_int W3
   have gq : w1.heap.size ≤ q := by rw [hp]; exact BW_3.out.size
   have ne : p ≠ q := by rw [hp]; exact Nat.ne_of_lt Kp_3.out.lt
   rw [← hW, ← hp]
   clear hW hp
   have Kq := hid kk
   clear kk
   have Kp_4 := hid (Kp_3.out.keep b)
   have R3_4 := hid (R3_3.out.keep b)
   have R4_4 := hid (R4.out.keep b)
   have BW_4 := hid (bx_call BW_3.out b)
   clear Kp_3 R3_3 R4 BW_3
   have H2 := And.intro (cell_bx hH.1 b) (cell_bx hH.2 b)
   clear hH b
   refine hK.out _ _ ?_ (fun hH => ?_)
   exact H2
   clear hK K H2
   (try simp only [Act.put, gy0, gy1, gy2])
   have ne2 := Ne.symm ne
   have TM := hid (two_made (z1 := z1) (z2 := z2) BW_4.out gp gq ne rfl rfl Kp_4.out Kq.out R3_4.out R4_4.out)
   have o1 : w.heap.size ≠ p := by omega
   have o2 : w.heap.size + 1 ≠ p := by omega
   have o3 : w.heap.size ≠ q := by omega
   have o4 : w.heap.size + 1 ≠ q := by omega
   have O := hid (And.intro o1 (And.intro o2 (And.intro o3 o4)))
   clear o1 o2 o3 o4
   obtain ⟨a1, a2, a3, a4, _⟩ := blk_facts Kp_4.out
   obtain ⟨d1, d2, d3, d4, _⟩ := blk_facts Kq.out
   refine wpAnyH_ready (rs := [13]) (by kernel_rfl) (by simp) ?_
   refine AllReadyH.cons (by simp only [gx0, gx1, gx2]; rfl) (fun K hK => ?_) AllReadyH.nil
   go_simp
   refine hK.out _ _ (And.intro (cell_fr (cell_fr hH.1 O.out.1) O.out.1) (cell_fr (cell_fr hH.2 O.out.2.1) O.out.2.1)) (fun hH2 => ?_)
   clear hK K hH
   (try simp only [Act.put, gy0, gy1, gy2])
   refine wpAnyH_ready (rs := [14]) (by kernel_rfl) (by simp) ?_
   refine AllReadyH.cons (by simp only [gx0, gx1, gx2]; rfl) (fun K hK => ?_) AllReadyH.nil
   go_simp
   refine hK.out _ _ (And.intro (cell_fr (cell_fr hH2.1 O.out.2.2.1) O.out.2.2.1) (cell_fr (cell_fr hH2.2 O.out.2.2.2) O.out.2.2.2)) (fun hH => ?_)
   clear hK K hH hH2 a1 a2 a3 a4 d1 d2 d3 d4
   refine wpAnyH_done (by kernel_rfl) ?_ _
   refine NoPanic.normal ?_
   go_wp2_with fail
   go_meet
   exact ⟨p, q, A3, n3, c3, A4, n4, c4, rfl, rfl, by omega, by omega, hid ⟨TM.out.1, P1.out.keep TM.out.2⟩⟩
   exact AllReadyH.nil
   refine AllReadyH.cons (by simp only [gx0, gx1, gx2]; rfl) (fun K hK => ?_) ?_
   go_simp
   obtain ⟨W3, q, hW, hp, b, kk⟩ := mk_int W2
   have gq : w1.heap.size ≤ q := by rw [hp]; exact BW_2.out.size
   have ne : p ≠ q := by rw [hp]; exact Nat.ne_of_lt Kp_2.out.lt
   rw [← hW, ← hp]
   clear hW hp
   have Kq := hid kk
   clear kk
   have Kp_3 := hid (Kp_2.out.keep b)
   have R3_3 := hid (R3.out.keep b)
   have BW_3 := hid (bx_call BW_2.out b)
   clear Kp_2 R3 BW_2
   have H2 := And.intro (cell_bx hH.1 b) (cell_bx hH.2 b)
   clear hH b
   refine hK.out _ _ ?_ (fun hH => ?_)
   exact H2
   clear hK K H2
   (try simp only [Act.put, gy0, gy1, gy2])
   refine wpAnyH_ready (rs := [10]) (by kernel_rfl) (by simp) ?_
   refine AllReadyH.cons (by simp only [gx0, gx1, gx2]; rfl) (fun K hK => ?_) ?_
   go_simp
   refine (C1.out _ BW_3.out).mono ?_
   rintro e W4 ⟨A4, n4, c4, rfl, r4, b⟩
   have R4 := hid r4
   clear r4
   have Kp_4 := hid (Kp_3.out.keep b)
   have R3_4 := hid (R3_3.out.keep b)
   have Kq_4 := hid (Kq.out.keep b)
   have BW_4 := hid (bx_call BW_3.out b)
   clear Kp_3 R3_3 Kq BW_3
   have H2 := And.intro (cell_bx hH.1 b) (cell_bx hH.2 b)
   clear hH b
   (try go_wp2_with fail)
   refine hK.out _ _ ?_ (fun hH => ?_)
   exact H2
   clear hK K H2
   (try simp only [Act.put, gy0, gy1, gy2])
   have ne2 := Ne.symm ne
   have TM := hid (two_made (z1 := z1) (z2 := z2) BW_4.out gp gq ne rfl rfl Kp_4.out Kq_4.out R3_4.out R4.out)
   have o1 : w.heap.size ≠ p := by omega
   have o2 : w.heap.size + 1 ≠ p := by omega
   have o3 : w.heap.size ≠ q := by omega
   have o4 : w.heap.size + 1 ≠ q := by omega
   have O := hid (And.intro o1 (And.intro o2 (And.intro o3 o4)))
   clear o1 o2 o3 o4
   obtain ⟨a1, a2, a3, a4, _⟩ := blk_facts Kp_4.out
   obtain ⟨d1, d2, d3, d4, _⟩ := blk_facts Kq_4.out
   refine wpAnyH_ready (rs := [13]) (by kernel_rfl) (by simp) ?_
   refine AllReadyH.cons (by simp only [gx0, gx1, gx2]; rfl) (fun K hK => ?_) AllReadyH.nil
   go_simp
   refine hK.out _ _ (And.intro (cell_fr (cell_fr hH.1 O.out.1) O.out.1) (cell_fr (cell_fr hH.2 O.out.2.1) O.out.2.1)) (fun hH2 => ?_)
   clear hK K hH
   (try simp only [Act.put, gy0, gy1, gy2])
   refine wpAnyH_ready (rs := [14]) (by kernel_rfl) (by simp) ?_
   refine AllReadyH.cons (by simp only [gx0, gx1, gx2]; rfl) (fun K hK => ?_) AllReadyH.nil
   go_simp
   refine hK.out _ _ (And.intro (cell_fr (cell_fr hH2.1 O.out.2.2.1) O.out.2.2.1) (cell_fr (cell_fr hH2.2 O.out.2.2.2) O.out.2.2.2)) (fun hH => ?_)
   clear hK K hH hH2 a1 a2 a3 a4 d1 d2 d3 d4
   refine wpAnyH_done (by kernel_rfl) ?_ _
   refine NoPanic.normal ?_
   go_wp2_with fail
   go_meet
   exact ⟨p, q, A3, n3, c3, A4, n4, c4, rfl, rfl, by omega, by omega, hid ⟨TM.out.1, P1.out.keep TM.out.2⟩⟩
   exact AllReadyH.nil
   exact AllReadyH.nil
   refine AllReadyH.cons (by simp only [gx0, gx1, gx2]; rfl) (fun K hK => ?_) ?_
   go_simp
   obtain ⟨W2, q, hW, hp, b, kk⟩ := mk_int W1
   have gq : w1.heap.size ≤ q := by rw [hp]; exact BW_1.out.size
   have ne : p ≠ q := by rw [hp]; exact Nat.ne_of_lt Kp.out.lt
   rw [← hW, ← hp]
   clear hW hp
   have Kq := hid kk
   clear kk
   have Kp_2 := hid (Kp.out.keep b)
   have BW_2 := hid (bx_call BW_1.out b)
   clear Kp BW_1
   have H2 := And.intro (cell_bx hH.1 b) (cell_bx hH.2 b)
   clear hH b
   refine hK.out _ _ ?_ (fun hH => ?_)
   exact H2
   clear hK K H2
   (try simp only [Act.put, gy0, gy1, gy2])
   refine wpAnyH_ready (rs := [6]) (by kernel_rfl) (by simp) ?_
   refine AllReadyH.cons (by simp only [gx0, gx1, gx2]; rfl) (fun K hK => ?_) ?_
   go_simp
   refine (C0.out _ BW_2.out).mono ?_
   rintro e W3 ⟨A3, n3, c3, rfl, r3, b⟩
   have R3 := hid r3
   clear r3
   have Kp_3 := hid (Kp_2.out.keep b)
   have Kq_3 := hid (Kq.out.keep b)
   have BW_3 := hid (bx_call BW_2.out b)
   clear Kp_2 Kq BW_2
   have H2 := And.intro (cell_bx hH.1 b) (cell_bx hH.2 b)
   clear hH b
   (try go_wp2_with fail)
   refine hK.out _ _ ?_ (fun hH => ?_)
   exact H2
   clear hK K H2
   (try simp only [Act.put, gy0, gy1, gy2])
   refine wpAnyH_ready (rs := [10]) (by kernel_rfl) (by simp) ?_
   refine AllReadyH.cons (by simp only [gx0, gx1, gx2]; rfl) (fun K hK => ?_) ?_
   go_simp
   refine (C1.out _ BW_3.out).mono ?_
   rintro e W4 ⟨A4, n4, c4, rfl, r4, b⟩
   have R4 := hid r4
   clear r4
   have Kp_4 := hid (Kp_3.out.keep b)
   have Kq_4 := hid (Kq_3.out.keep b)
   have R3_4 := hid (R3.out.keep b)
   have BW_4 := hid (bx_call BW_3.out b)
   clear Kp_3 Kq_3 R3 BW_3
   have H2 := And.intro (cell_bx hH.1 b) (cell_bx hH.2 b)
   clear hH b
   (try go_wp2_with fail)
   refine hK.out _ _ ?_ (fun hH => ?_)
   exact H2
   clear hK K H2
   (try simp only [Act.put, gy0, gy1, gy2])
   have ne2 := Ne.symm ne
   have TM := hid (two_made (z1 := z1) (z2 := z2) BW_4.out gp gq ne rfl rfl Kp_4.out Kq_4.out R3_4.out R4.out)
   have o1 : w.heap.size ≠ p := by omega
   have o2 : w.heap.size + 1 ≠ p := by omega
   have o3 : w.heap.size ≠ q := by omega
   have o4 : w.heap.size + 1 ≠ q := by omega
   have O := hid (And.intro o1 (And.intro o2 (And.intro o3 o4)))
   clear o1 o2 o3 o4
   obtain ⟨a1, a2, a3, a4, _⟩ := blk_facts Kp_4.out
   obtain ⟨d1, d2, d3, d4, _⟩ := blk_facts Kq_4.out
   refine wpAnyH_ready (rs := [13]) (by kernel_rfl) (by simp) ?_
   refine AllReadyH.cons (by simp only [gx0, gx1, gx2]; rfl) (fun K hK => ?_) AllReadyH.nil
   go_simp
   refine hK.out _ _ (And.intro (cell_fr (cell_fr hH.1 O.out.1) O.out.1) (cell_fr (cell_fr hH.2 O.out.2.1) O.out.2.1)) (fun hH2 => ?_)
   clear hK K hH
   (try simp only [Act.put, gy0, gy1, gy2])
   refine wpAnyH_ready (rs := [14]) (by kernel_rfl) (by simp) ?_
   refine AllReadyH.cons (by simp only [gx0, gx1, gx2]; rfl) (fun K hK => ?_) AllReadyH.nil
   go_simp
   refine hK.out _ _ (And.intro (cell_fr (cell_fr hH2.1 O.out.2.2.1) O.out.2.2.1) (cell_fr (cell_fr hH2.2 O.out.2.2.2) O.out.2.2.2)) (fun hH => ?_)
   clear hK K hH hH2 a1 a2 a3 a4 d1 d2 d3 d4
   refine wpAnyH_done (by kernel_rfl) ?_ _
   refine NoPanic.normal ?_
   go_wp2_with fail
   go_meet
   exact ⟨p, q, A3, n3, c3, A4, n4, c4, rfl, rfl, by omega, by omega, hid ⟨TM.out.1, P1.out.keep TM.out.2⟩⟩
   exact AllReadyH.nil
   exact AllReadyH.nil
   exact AllReadyH.nil
   refine AllReadyH.cons (by simp only [gx0, gx1, gx2]; rfl) (fun K hK => ?_) ?_
   go_simp
   obtain ⟨W1, q, hW, hp, b, kk⟩ := mk_int W0
   have gq : w1.heap.size ≤ q := by rw [hp]; exact BW_0.out.size
   rw [← hW, ← hp]
   clear hW hp
   have Kq := hid kk
   clear kk
   have BW_1 := hid (bx_call BW_0.out b)
   clear BW_0
   have H2 := And.intro (cell_bx hH.1 b) (cell_bx hH.2 b)
   clear hH b
   refine hK.out _ _ ?_ (fun hH => ?_)
   exact H2
   clear hK K H2
   (try simp only [Act.put, gy0, gy1, gy2])
   refine wpAnyH_ready (rs := [6, 11]) (by kernel_rfl) (by simp) ?_
   refine AllReadyH.cons (by simp only [gx0, gx1, gx2]; rfl) (fun K hK => ?_) ?_
   go_simp
   refine (C0.out _ BW_1.out).mono ?_
   rintro e W2 ⟨A3, n3, c3, rfl, r3, b⟩
   have R3 := hid r3
   clear r3
   have Kq_2 := hid (Kq.out.keep b)
   have BW_2 := hid (bx_call BW_1.out b)
   clear Kq BW_1
   have H2 := And.intro (cell_bx hH.1 b) (cell_bx hH.2 b)
   clear hH b
   (try go_wp2_with fail)
   refine hK.out _ _ ?_ (fun hH => ?_)
   exact H2
   clear hK K H2
   (try simp only [Act.put, gy0, gy1, gy2])
   refine wpAnyH_ready (rs := [10, 11]) (by kernel_rfl) (by simp) ?_
   refine AllReadyH.cons (by simp only [gx0, gx1, gx2]; rfl) (fun K hK => ?_) ?_
   go_simp
   refine (C1.out _ BW_2.out).mono ?_
   rintro e W3 ⟨A4, n4, c4, rfl, r4, b⟩
   have R4 := hid r4
   clear r4
   have Kq_3 := hid (Kq_2.out.keep b)
   have R3_3 := hid (R3.out.keep b)
   have BW_3 := hid (bx_call BW_2.out b)
   clear Kq_2 R3 BW_2
   have H2 := And.intro (cell_bx hH.1 b) (cell_bx hH.2 b)
   clear hH b
   (try go_wp2_with fail)
   refine hK.out _ _ ?_ (fun hH => ?_)
   exact H2
   clear hK K H2
   (try simp only [Act.put, gy0, gy1, gy2])
   refine wpAnyH_ready (rs := [11]) (by kernel_rfl) (by simp) ?_
   refine AllReadyH.cons (by simp only [gx0, gx1, gx2]; rfl) (fun K hK => ?_) ?_
   go_simp
   obtain ⟨W4, p, hW, hp, b, kk⟩ := mk_int W3
   have gp : w1.heap.size ≤ p := by rw [hp]; exact BW_3.out.size
   have ne : p ≠ q := by rw [hp]; exact Nat.ne_of_gt Kq_3.out.lt
   rw [← hW, ← hp]
   clear hW hp
   have Kp := hid kk
   clear kk
   have Kq_4 := hid (Kq_3.out.keep b)
   have R3_4 := hid (R3_3.out.keep b)
   have R4_4 := hid (R4.out.keep b)
   have BW_4 := hid (bx_call BW_3.out b)
   clear Kq_3 R3_3 R4 BW_3
   have H2 := And.intro (cell_bx hH.1 b) (cell_bx hH.2 b)
   clear hH b
   refine hK.out _ _ ?_ (fun hH => ?_)
   exact H2
   clear hK K H2
   (try simp only [Act.put, gy0, gy1, gy2])
   have ne2 := Ne.symm ne
   have TM := hid (two_made (z1 := z1) (z2 := z2) BW_4.out gp gq ne rfl rfl Kp.out Kq_4.out R3_4.out R4_4.out)
   have o1 : w.heap.size ≠ p := by omega
   have o2 : w.heap.size + 1 ≠ p := by omega
   have o3 : w.heap.size ≠ q := by omega
   have o4 : w.heap.size + 1 ≠ q := by omega
   have O := hid (And.intro o1 (And.intro o2 (And.intro o3 o4)))
   clear o1 o2 o3 o4
   obtain ⟨a1, a2, a3, a4, _⟩ := blk_facts Kp.out
   obtain ⟨d1, d2, d3, d4, _⟩ := blk_facts Kq_4.out
   refine wpAnyH_ready (rs := [13]) (by kernel_rfl) (by simp) ?_
   refine AllReadyH.cons (by simp only [gx0, gx1, gx2]; rfl) (fun K hK => ?_) AllReadyH.nil
   go_simp
   refine hK.out _ _ (And.intro (cell_fr (cell_fr hH.1 O.out.1) O.out.1) (cell_fr (cell_fr hH.2 O.out.2.1) O.out.2.1)) (fun hH2 => ?_)
   clear hK K hH
   (try simp only [Act.put, gy0, gy1, gy2])
   refine wpAnyH_ready (rs := [14]) (by kernel_rfl) (by simp) ?_
   refine AllReadyH.cons (by simp only [gx0, gx1, gx2]; rfl) (fun K hK => ?_) AllReadyH.nil
   go_simp
   refine hK.out _ _ (And.intro (cell_fr (cell_fr hH2.1 O.out.2.2.1) O.out.2.2.1) (cell_fr (cell_fr hH2.2 O.out.2.2.2) O.out.2.2.2)) (fun hH => ?_)
   clear hK K hH hH2 a1 a2 a3 a4 d1 d2 d3 d4
   refine wpAnyH_done (by kernel_rfl) ?_ _
   refine NoPanic.normal ?_
   go_wp2_with fail
   go_meet
   exact ⟨p, q, A3, n3, c3, A4, n4, c4, rfl, rfl, by omega, by omega, hid ⟨TM.out.1, P1.out.keep TM.out.2⟩⟩
   exact AllReadyH.nil
   refine AllReadyH.cons (by simp only [gx0, gx1, gx2]; rfl) (fun K hK => ?_) ?_
   go_simp
   obtain ⟨W3, p, hW, hp, b, kk⟩ := mk_int W2
   have gp : w1.heap.size ≤ p := by rw [hp]; exact BW_2.out.size
   have ne : p ≠ q := by rw [hp]; exact Nat.ne_of_gt Kq_2.out.lt
   rw [← hW, ← hp]
   clear hW hp
   have Kp := hid kk
   clear kk
   have Kq_3 := hid (Kq_2.out.keep b)
   have R3_3 := hid (R3.out.keep b)
   have BW_3 := hid (bx_call BW_2.out b)
   clear Kq_2 R3 BW_2
   have H2 := And.intro (cell_bx hH.1 b) (cell_bx hH.2 b)
   clear hH b
   refine hK.out _ _ ?_ (fun hH => ?_)
   exact H2
   clear hK K H2
   (try simp only [Act.put, gy0, gy1, gy2])
   refine wpAnyH_ready (rs := [10]) (by kernel_rfl) (by simp) ?_
   refine AllReadyH.cons (by simp only [gx0, gx1, gx2]; rfl) (fun K hK => ?_) ?_
   go_simp
   refine (C1.out _ BW_3.out).mono ?_
   rintro e W4 ⟨A4, n4, c4, rfl, r4, b⟩
   have R4 := hid r4
   clear r4
   have Kq_4 := hid (Kq_3.out.keep b)
   have R3_4 := hid (R3_3.out.keep b)
   have Kp_4 := hid (Kp.out.keep b)
   have BW_4 := hid (bx_call BW_3.out b)
   clear Kq_3 R3_3 Kp BW_3
   have H2 := And.intro (cell_bx hH.1 b) (cell_bx hH.2 b)
   clear hH b
   (try go_wp2_with fail)
   refine hK.out _ _ ?_ (fun hH => ?_)
   exact H2
   clear hK K H2
   (try simp only [Act.put, gy0, gy1, gy2])
   have ne2 := Ne.symm ne
   have TM := hid (two_made (z1 := z1) (z2 := z2) BW_4.out gp gq ne rfl rfl Kp_4.out Kq_4.out R3_4.out R4.out)
   have o1 : w.heap.size ≠ p := by omega
   have o2 : w.heap.size + 1 ≠ p := by omega
   have o3 : w.heap.size ≠ q := by omega
   have o4 : w.heap.size + 1 ≠ q := by omega
   have O := hid (And.intro o1 (And.intro o2 (And.intro o3 o4)))
   clear o1 o2 o3 o4
   obtain ⟨a1, a2, a3, a4, _⟩ := blk_facts Kp_4.out
   obtain ⟨d1, d2, d3, d4, _⟩ := blk_facts Kq_4.out
   refine wpAnyH_ready (rs := [13]) (by kernel_rfl) (by simp) ?_
   refine AllReadyH.cons (by simp only [gx0, gx1, gx2]; rfl) (fun K hK => ?_) AllReadyH.nil
   go_simp
   refine hK.out _ _ (And.intro (cell_fr (cell_fr hH.1 O.out.1) O.out.1) (cell_fr (cell_fr hH.2 O.out.2.1) O.out.2.1)) (fun hH2 => ?_)
   clear hK K hH
   (try simp only [Act.put, gy0, gy1, gy2])
   refine wpAnyH_ready (rs := [14]) (by kernel_rfl) (by simp) ?_
   refine AllReadyH.cons (by simp only [gx0, gx1, gx2]; rfl) (fun K hK => ?_) AllReadyH.nil
   go_simp
   refine hK.out _ _ (And.intro (cell_fr (cell_fr hH2.1 O.out.2.2.1) O.out.2.2.1) (cell_fr (cell_fr hH2.2 O.out.2.2.2) O.out.2.2.2)) (fun hH => ?_)
   clear hK K hH hH2 a1 a2 a3 a4 d1 d2 d3 d4
   refine wpAnyH_done (by kernel_rfl) ?_ _
   refine NoPanic.normal ?_
   go_wp2_with fail
   go_meet
   exact ⟨p, q, A3, n3, c3, A4, n4, c4, rfl, rfl, by omega, by omega, hid ⟨TM.out.1, P1.out.keep TM.out.2⟩⟩
   exact AllReadyH.nil
   exact AllReadyH.nil
   refine AllReadyH.cons (by simp only [gx0, gx1, gx2]; rfl) (fun K hK => ?_) ?_
   go_simp
   obtain ⟨W2, p, hW, hp, b, kk⟩ := mk_int W1
   have gp : w1.heap.size ≤ p := by rw [hp]; exact BW_1.out.size
   have ne : p ≠ q := by rw [hp]; exact Nat.ne_of_gt Kq.out.lt
   rw [← hW, ← hp]
   clear hW hp
   have Kp := hid kk
   clear kk
   have Kq_2 := hid (Kq.out.keep b)
   have BW_2 := hid (bx_call BW_1.out b)
   clear Kq BW_1
   have H2 := And.intro (cell_bx hH.1 b) (cell_bx hH.2 b)
   clear hH b
   refine hK.out _ _ ?_ (fun hH => ?_)
   exact H2
   clear hK K H2
   (try simp only [Act.put, gy0, gy1, gy2])
   refine wpAnyH_ready (rs := [6]) (by kernel_rfl) (by simp) ?_
   refine AllReadyH.cons (by simp only [gx0, gx1, gx2]; rfl) (fun K hK => ?_) ?_
   go_simp
   refine (C0.out _ BW_2.out).mono ?_
   rintro e W3 ⟨A3, n3, c3, rfl, r3, b⟩
   have R3 := hid r3
   clear r3
   have Kq_3 := hid (Kq_2.out.keep b)
   have Kp_3 := hid (Kp.out.keep b)
   have BW_3 := hid (bx_call BW_2.out b)
   clear Kq_2 Kp BW_2
   have H2 := And.intro (cell_bx hH.1 b) (cell_bx hH.2 b)
   clear hH b
   (try go_wp2_with fail)
   refine hK.out _ _ ?_ (fun hH => ?_)
   exact H2
   clear hK K H2
   (try simp only [Act.put, gy0, gy1, gy2])
   refine wpAnyH_ready (rs := [10]) (by kernel_rfl) (by simp) ?_
   refine AllReadyH.cons (by simp only [gx0, gx1, gx2]; rfl) (fun K hK => ?_) ?_
   go_simp
   refine (C1.out _ BW_3.out).mono ?_
   rintro e W4 ⟨A4, n4, c4, rfl, r4, b⟩
   have R4 := hid r4
   clear r4
   have Kq_4 := hid (Kq_3.out.keep b)
   have Kp_4 := hid (Kp_3.out.keep b)
   have R3_4 := hid (R3.out.keep b)
   have BW_4 := hid (bx_call BW_3.out b)
   clear Kq_3 Kp_3 R3 BW_3
   have H2 := And.intro (cell_bx hH.1 b) (cell_bx hH.2 b)
   clear hH b
   (try go_wp2_with fail)
   refine hK.out _ _ ?_ (fun hH => ?_)
   exact H2
   clear hK K H2
   (try simp only [Act.put, gy0, gy1, gy2])
   have ne2 := Ne.symm ne
   have TM := hid (two_made (z1 := z1) (z2 := z2) BW_4.out gp gq ne rfl rfl Kp_4.out Kq_4.out R3_4.out R4.out)
   have o1 : w.heap.size ≠ p := by omega
   have o2 : w.heap.size + 1 ≠ p := by omega
   have o3 : w.heap.size ≠ q := by omega
   have o4 : w.heap.size + 1 ≠ q := by omega
   have O := hid (And.intro o1 (And.intro o2 (And.intro o3 o4)))
   clear o1 o2 o3 o4
   obtain ⟨a1, a2, a3, a4, _⟩ := blk_facts Kp_4.out
   obtain ⟨d1, d2, d3, d4, _⟩ := blk_facts Kq_4.out
   refine wpAnyH_ready (rs := [13]) (by kernel_rfl) (by simp) ?_
   refine AllReadyH.cons (by simp only [gx0, gx1, gx2]; rfl) (fun K hK => ?_) AllReadyH.nil
   go_simp
   refine hK.out _ _ (And.intro (cell_fr (cell_fr hH.1 O.out.1) O.out.1) (cell_fr (cell_fr hH.2 O.out.2.1) O.out.2.1)) (fun hH2 => ?_)
   clear hK K hH
   (try simp only [Act.put, gy0, gy1, gy2])
   refine wpAnyH_ready (rs := [14]) (by kernel_rfl) (by simp) ?_
   refine AllReadyH.cons (by simp only [gx0, gx1, gx2]; rfl) (fun K hK => ?_) AllReadyH.nil
   go_simp
   refine hK.out _ _ (And.intro (cell_fr (cell_fr hH2.1 O.out.2.2.1) O.out.2.2.1) (cell_fr (cell_fr hH2.2 O.out.2.2.2) O.out.2.2.2)) (fun hH => ?_)
   clear hK K hH hH2 a1 a2 a3 a4 d1 d2 d3 d4
   refine wpAnyH_done (by kernel_rfl) ?_ _
   refine NoPanic.normal ?_
   go_wp2_with fail
   go_meet
   exact ⟨p, q, A3, n3, c3, A4, n4, c4, rfl, rfl, by omega, by omega, hid ⟨TM.out.1, P1.out.keep TM.out.2⟩⟩
   exact AllReadyH.nil
   exact AllReadyH.nil
   exact AllReadyH.nil
   exact AllReadyH.nil
  case rest =>
    obtain ⟨p, q, A3, n3, c3, A4, n4, c4, rfl, rfl, gp, gq, hT⟩ := hcut
    obtain ⟨f1, f2, f3, f4⟩ := hT.out.1.cells
    go_wp2_with fail
    refine (iquo1_any _ _ _).mono ?_
    rintro e w5 ⟨rfl, b5⟩
    have T5 := hid (hT.out.1.keep b5)
    have P5 := hid (hT.out.2.keep b5)
    clear hT b5 f1 f2 f3 f4
    obtain ⟨f1, f2, f3, f4⟩ := T5.out.cells
    obtain ⟨x1, x2, x3, x4, y1, y2, y3, y4⟩ := P5.out.rcells
    have E := hid (retQR_drew (P5.out.end_ (k := 0) T5.out.rd1 T5.out.rd2))
    clear T5 P5 hn hm hy C0 C1 T1 P1 z1w
    go_wp2_with fail
    go_region_held3 (fun W => W.cell? ⟨p, 0, none⟩ = some (.bool (sg z1)) ∧ W.cell? ⟨p, 1, none⟩ = some (.slice A3 n3 c3) ∧ W.cell? ⟨q, 0, none⟩ = some (.bool (sg z2)) ∧ W.cell? ⟨q, 1, none⟩ = some (.slice A4 n4 c4))
      (refine ⟨?_, ?_, ?_, ?_⟩ <;> repeat' (first | with_reducible assumption | with_reducible refine cell_dr ?_ | with_reducible refine cell_fr ?_ (by omega)))
      (fail)
    go_wp2_with fail
    exact bodyPost_ret (v := .tuple #[.agg #[.bool (sg z1), .slice A3 n3 c3], .agg #[.bool (sg z2), .slice A4 n4 c4], .int .i64 0]) (by simp [results, Tryz.results148, go_sem, x1, x2, y1, y2]) rfl E.out
theorem iv_sg (z : Int) : iv (sg z) (dg z.natAbs) = z := by
  unfold iv sg
  rw [val_dg]
  by_cases h : z < 0
  · rw [decide_eq_true h, if_pos rfl]; omega
  · rw [decide_eq_false h, if_neg (by simp)]; omega
def qz (x y : Int) : Int := if y = 0 then 0 else x.tdiv y
def rz (x y : Int) : Int := if y = 0 then 0 else x.tmod y
def ez (y : Int) : Int := if y = 0 then 2 else 0
theorem iv_zero_iff (g : Bool) (ys : List Nat) : iv g ys = 0 ↔ val ys = 0 := by
  cases g <;> simp [iv] <;> omega
theorem idivide_zero (g1 : Bool) (A : Option Addr) (n c : Nat) (xs : List Nat) (g2 : Bool) (B : Option Addr) (m d : Nat) (ys : List Nat) (F : Value) (w : World) (h : Rd w A n c xs) (hn : n ≤ 1099511627776) (k : Rd w B m d ys) (hm : m ≤ 1099511627776) (hy : val ys = 0) :
    Calls Tryz.prog 148 #[.agg #[.bool g1, .slice A n c], .agg #[.bool g2, .slice B m d], F] w (RetQR w 0 0 2) := by
  have P0 := hid (Pre4.start w g1 (.slice A n c) g2 (.slice B m d))
  have DM := hid (fun (W : World) (p : Pre4 w g1 (.slice A n c) g2 (.slice B m d) W) => divMod_any A B n c m d xs ys W (h.keep p.bel) (k.keep p.bel) hn hm)
  rw [hy, quoD_zero, remD_zero, divE_zero] at DM
  obtain ⟨s1, s2, s3, s4⟩ := P0.out.cells
  clear h k hy
  go_enter Tryz.func148, Tryz.ntmps148
  go_wp2_with fail
  refine (DM.out _ P0.out).mono ?_
  rintro e w1 ⟨v, u, rfl, ⟨A1, n1, c1, rfl, r1⟩, ⟨A2, n2, c2, rfl, r2⟩, b1⟩
  have P1 := hid (P0.out.keep b1)
  clear r1 r2 b1 DM s1 s2 s3 s4 P0
  obtain ⟨x1, x2, x3, x4, y1, y2, y3, y4⟩ := P1.out.rcells
  have E := hid (P1.out.end_ (z1 := 0) (z2 := 0) (k := 2) (Rd.nil w1 none) (Rd.nil w1 none))
  clear P1
  go_wp2_with fail
  exact bodyPost_ret (v := .tuple #[.agg #[.bool (sg 0), .slice none 0 0], .agg #[.bool (sg 0), .slice none 0 0], .int .i64 2]) (by simp [results, Tryz.results148, go_sem, x1, x2, y1, y2, sg]) rfl E.out
set_option maxHeartbeats 1000000 in
theorem iquo_any (g1 : Bool) (A : Option Addr) (n c : Nat) (xs : List Nat) (g2 : Bool) (B : Option Addr) (m d : Nat) (ys : List Nat) (w : World) (h : Rd w A n c xs) (hn : n ≤ 1099511627776) (k : Rd w B m d ys) (hm : m ≤ 1099511627776) :
    Calls Tryz.prog 159 #[.agg #[.bool g1, .slice A n c], .agg #[.bool g2, .slice B m d]] w (RetQR w (qz (iv g1 xs) (iv g2 ys)) (rz (iv g1 xs) (iv g2 ys)) (ez (iv g2 ys))) := by
  have P0 := hid (Pre4.start w g1 (.slice A n c) g2 (.slice B m d))
  have DV : Hid (∀ W : World, Pre4 w g1 (.slice A n c) g2 (.slice B m d) W → Calls Tryz.prog 148 #[.agg #[.bool g1, .slice A n c], .agg #[.bool g2, .slice B m d], .func (.func 186) #[] #[]] W (RetQR W (qz (iv g1 xs) (iv g2 ys)) (rz (iv g1 xs) (iv g2 ys)) (ez (iv g2 ys)))) := by
    refine hid fun W p => ?_
    unfold qz rz ez
    by_cases hy : iv g2 ys = 0
    · rw [if_pos hy, if_pos hy, if_pos hy]
      exact idivide_zero g1 A n c xs g2 B m d ys _ W (h.keep p.bel) hn (k.keep p.bel) hm ((iv_zero_iff g2 ys).1 hy)
    · rw [if_neg hy, if_neg hy, if_neg hy]
      exact idivide_quo g1 A n c xs g2 B m d ys W (h.keep p.bel) hn (k.keep p.bel) hm (Nat.pos_of_ne_zero fun e => hy ((iv_zero_iff g2 ys).2 e))
  obtain ⟨z1, hz1⟩ : ∃ z, z = qz (iv g1 xs) (iv g2 ys) := ⟨_, rfl⟩
  obtain ⟨z2, hz2⟩ : ∃ z, z = rz (iv g1 xs) (iv g2 ys) := ⟨_, rfl⟩
  obtain ⟨z3, hz3⟩ : ∃ z, z = ez (iv g2 ys) := ⟨_, rfl⟩
  rw [← hz1, ← hz2, ← hz3] at DV ⊢
  obtain ⟨s1, s2, s3, s4⟩ := P0.out.cells
  clear h k hz1 hz2 hz3
  go_enter Tryz.func159, Tryz.ntmps159
  go_wp2_with fail
  refine (DV.out _ P0.out).mono ?_
  rintro e w1 ⟨A1, n1, c1, A2, n2, c2, rfl, r1, r2, b1⟩
  have P1 := hid (P0.out.keep b1)
  have R1 := hid r1
  have R2 := hid r2
  clear r1 r2 b1 DV s1 s2 s3 s4 P0
  obtain ⟨x1, x2, x3, x4, y1, y2, y3, y4⟩ := P1.out.rcells
  have E := hid (P1.out.end_ (k := z3) R1.out R2.out)
  clear P1 R1 R2
  go_wp2_with fail
  exact bodyPost_ret (v := .tuple #[.agg #[.bool (sg z1), .slice A1 n1 c1], .agg #[.bool (sg z2), .slice A2 n2 c2], .int .i64 z3]) (by simp [results, Tryz.results159, go_sem, x1, x2, y1, y2]) rfl E.out
theorem rifrom_any (z : Int) (w : World) (h1 : -9223372036854775808 ≤ z) (h2 : z ≤ 9223372036854775807) :
    Calls Tryz.prog 90 #[.int .i64 z] w (RetInt w z) := by
  rcases Int.lt_or_le z 0 with h | h
  · exact rifrom_neg z w h1 h
  · exact rifrom_pos z w h h2
theorem blk_two {w : World} {b t : Nat} {x y : Value} (h : Blk w b [x, y] t) : w.cell? ⟨b, 0, none⟩ = some x ∧ w.cell? ⟨b, 1, none⟩ = some y := ⟨Blk.cell h 0, Blk.cell h 1⟩
def sz (k : Nat) (z : Int) : Prop := z.natAbs < 4294967296 ^ k
end Go.Proofs.YtdbccidlnhjfhaaGreatDoor
