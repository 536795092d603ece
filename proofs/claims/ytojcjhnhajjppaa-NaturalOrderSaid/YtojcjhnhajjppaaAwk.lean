/- Contracts: awake and few of the laws of layer 1. -/
import Derived.Test.YtojcjhnhajjppaaRef12
import Derived.Test.YtojcjhnhajjppaaGcd
import Derived.Test.YtojcjhnhajjppaaLit
namespace Go.Proofs.Ytojcjhnhajjppaa
open Go.RowKit

theorem two_len : (dg 14285714285714285714).length ≤ 100 := Nat.le_trans (dg_len_le (k := 3) (by omega)) (by omega)
theorem lit2_rd (w : World) (d e : Nat) (hd : d < 4294967296) (he : e < 4294967296) (x y : Int) (hx : x = (d : Int)) (hy : y = (e : Int)) : Rd (w.alloc (.cells #[.int .u32 x, .int .u32 y] 44)) (some ⟨w.heap.size, 0, none⟩) 2 2 [d, e] := by
  subst hx hy
  exact (show Row (w.alloc (.cells #[.int .u32 (d : Int), .int .u32 (e : Int)] 44)) w.heap.size [d, e] from Blk.new w [dv d, dv e] _).rd0 (Digs.cons hd (Digs.cons he Digs.nil)) (Nat.le_refl _) (by simp)

set_option maxRecDepth 100000 in
set_option maxHeartbeats 2000000 in
theorem awake_any (w : World) : Calls Try.prog 17 #[] w (RetB w true) := by
  have ra := hid (one_rd w 4294967295 (by omega) 4294967295 rfl)
  have ba := hid ((Below.refl w.heap.size w).alloc (Nat.le_refl _) (.cells #[.int .u32 4294967295] 44))
  have PA : Hid (Calls Try.prog 43 #[.string ⟨#[49, 48, 48, 48, 48, 48, 48, 48, 48, 48, 48, 48, 48, 48, 48, 48, 48, 48, 48, 48, 48]⟩] (w.alloc (.cells #[.int .u32 4294967295] 44)) (Ret2 (w.alloc (.cells #[.int .u32 4294967295] 44)) (dg 100000000000000000000) 0)) := by
    have pa := parse_any ⟨#[49, 48, 48, 48, 48, 48, 48, 48, 48, 48, 48, 48, 48, 48, 48, 48, 48, 48, 48, 48, 48]⟩ (w.alloc (.cells #[.int .u32 4294967295] 44)) (by decide)
    have e : (⟨#[49, 48, 48, 48, 48, 48, 48, 48, 48, 48, 48, 48, 48, 48, 48, 48, 48, 48, 48, 48, 48]⟩ : ByteArray).data.toList = hund := rfl
    rw [e, par_hund.1, par_hund.2] at pa
    exact pa
  go_enter Try.func17, Try.ntmps17
  go_wp2_with fail
  refine (PA.out).mono ?_
  rintro e w1 ⟨v1, rfl, ⟨A1, p1, c1, rfl, r1⟩, b1⟩
  have hp1 : p1 ≤ 100 := by rw [← r1.1]; exact hund_len
  have R1 := hid r1
  have B1 := hid b1
  have dm := divMod_any A1 _ p1 c1 1 1 _ [7] _ (r1.keep ((Below.refl _ _).alloc (Nat.le_refl _) _)) (one_rd w1 7 (by omega) 7 rfl) (by omega) (by omega)
  rw [val_dg, show val [7] = 7 from rfl, quo_seven, rem_seven, div_seven] at dm
  have DM := hid dm
  clear r1 b1 dm PA
  go_wp2_with fail
  refine (DM.out).mono ?_
  rintro e w2 ⟨v2, u2, rfl, ⟨A2, p2, c2, rfl, r2⟩, ⟨A3, p3, c3, rfl, r3⟩, b2⟩
  have R2 := hid r2
  have R3 := hid r3
  have hp2 : p2 ≤ 100 := by rw [← r2.1]; exact two_len
  have B2 := hid (ba.out.trans ((B1.out.trans ((((Below.refl w1.heap.size w1).alloc (Nat.le_refl _) (.cells #[.int .u32 7] 44)).trans (b2.mono (by simp))).mono B1.out.size)).mono ba.out.size))
  have mm := fun (W : World) (h : Below w.heap.size w W) (hr : Rd W (some ⟨w.heap.size, 0, none⟩) 1 1 [4294967295]) => mul_any _ _ 1 1 1 1 _ _ W hr hr (by omega) (by omega)
  rw [show val [4294967295] * val [4294967295] = 18446744065119617025 from rfl] at mm
  have MM := hid mm
  have RA2 := hid ((ra.out.keep B1.out).keep (((Below.refl w1.heap.size w1).alloc (Nat.le_refl _) (.cells #[.int .u32 7] 44)).trans (b2.mono (by simp))))
  clear r2 r3 b2 DM mm R1 ra
  go_wp2_with fail
  refine (MM.out w2 B2.out RA2.out).mono ?_
  rintro e w3 ⟨v3, rfl, ⟨A4, p4, c4, rfl, r4⟩, b3⟩
  have sm := rsame_any A4 _ p4 c4 2 2 _ _ _ (r4.keep ((Below.refl _ _).alloc (Nat.le_refl _) _)) (lit2_rd w3 1 4294967294 (by omega) (by omega) 1 4294967294 rfl rfl)
  rw [dg_sq, decide_eq_true rfl] at sm
  have SM := hid sm
  have B3 := hid (b3.trans (((Below.refl w3.heap.size w3).alloc (Nat.le_refl _) (.cells #[.int .u32 1, .int .u32 4294967294] 44)).mono b3.size))
  clear r4 b3 sm
  go_wp2_with fail
  refine (SM.out).mono ?_
  rintro e w4 ⟨rfl, b4⟩
  have B4 := hid (B3.out.trans (b4.mono B3.out.size))
  clear b4 SM B3
  go_wp2_with fail
  refine (MM.out w4 (B2.out.trans (B4.out.mono B2.out.size)) (RA2.out.keep B4.out)).mono ?_
  rintro e w5 ⟨v5, rfl, ⟨A5, p5, c5, rfl, r5⟩, b5⟩
  have t5 := text_any A5 p5 c5 _ w5 r5 (by have := r5.1; rw [dg_sq] at this; simp at this; omega)
  rw [val_dg, tx_one] at t5
  have T5 := hid t5
  have B5 := hid (B4.out.trans (b5.mono B4.out.size))
  clear r5 b5 t5 B4
  go_wp2_with fail
  refine (T5.out).mono ?_
  rintro e w6 ⟨rfl, b6⟩
  have B6 := hid (B5.out.trans (b6.mono B5.out.size))
  have t6 := text_any A2 p2 c2 _ w6 (R2.out.keep B6.out) (by omega)
  rw [val_dg, tx_two] at t6
  have T6 := hid t6
  clear b6 t6 B5 T5
  go_wp2_with fail
  refine (T6.out).mono ?_
  rintro e w7 ⟨rfl, b7⟩
  have B7 := hid (B6.out.trans (b7.mono B6.out.size))
  have s7 := rsame_any A3 _ p3 c3 1 1 _ _ _ ((R3.out.keep B7.out).keep ((Below.refl _ _).alloc (Nat.le_refl _) _)) (one_rd w7 2 (by omega) 2 rfl)
  rw [dg_two, decide_eq_true rfl] at s7
  have S7 := hid s7
  clear b7 s7 B6 T6
  go_wp2_with fail
  refine (S7.out).mono ?_
  rintro e w8 ⟨rfl, b8⟩
  have B8 := hid (B2.out.trans ((B7.out.trans ((((Below.refl w7.heap.size w7).alloc (Nat.le_refl _) (.cells #[.int .u32 2] 44)).trans (b8.mono (by simp))).mono B7.out.size)).mono B2.out.size))
  clear b8 B7 S7
  go_wp2_with fail
  go_ret
  exact ⟨rfl, B8.out⟩

end Go.Proofs.Ytojcjhnhajjppaa
