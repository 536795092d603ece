/- RatY: RatF, RatG, RatH, RatI, RatJ, RatK in one text. -/
import Derived.Test.YtlgdlabhaehdpaaGreatRatX

namespace Go.Proofs.YtlgdlabhaehdpaaGreat
open Go.RowKit

theorem pv_zr (p : Int) : pv p 0 = 0 := by
  unfold pv
  rw [Rat.intCast_zero]
  grind
end Go.Proofs.YtlgdlabhaehdpaaGreat

namespace Go.Proofs.YtlgdlabhaehdpaaGreat
open Go.RowKit

/-- Int64 of a fraction. -/
def RetQI (w : World) (q : Rat) (e : Ending) (w' : World) : Prop := e = .returned (.tuple #[.int .i64 (if q.den = 1 then i64V q.num else 0), .bool (decide (q.den = 1) && i64B q.num)]) ∧ Below w.heap.size w w'
/-- The text of a fraction. -/
def txQ (q : Rat) : List UInt8 := if q.den = 1 then txZ q.num else txZ q.num ++ 47 :: tx q.den
theorem dn_one {y : Nat} (h : y = 1) : dn y = [] := if_pos h
theorem dn_ne {y : Nat} (h : y ≠ 1) : dn y = dg y := if_neg h
theorem dn_ln0 {w : World} {D : Option Addr} {m d y : Nat} (h : Rd w D m d (dn y)) (hy : y = 1) : m = 0 := by
  rw [← h.1, dn_one hy]; rfl
theorem dn_ln1 {w : World} {D : Option Addr} {m d y : Nat} (h : Rd w D m d (dn y)) (hy : y ≠ 1) (h0 : 0 < y) : 0 < m := by
  rw [← h.1, dn_ne hy]
  exact dg_len_pos h0
theorem txZ_len {z : Int} {k : Nat} (h : (dg z.natAbs).length ≤ k) : (txZ z).length ≤ 10 * k + 2 := by
  have h1 := dg_len_lt z.natAbs
  have h2 := Nat.lt_of_lt_of_le h1 (Nat.pow_le_pow_right (n := 4294967296) (by decide) h)
  have h3 := tx_len h2
  unfold txZ
  split
  · rw [List.length_cons]; omega
  · omega
theorem txN_len {y k : Nat} (h : (dg y).length ≤ k) : (tx y).length ≤ 10 * k + 1 := by
  have h1 := dg_len_lt y
  exact tx_len (Nat.lt_of_lt_of_le h1 (Nat.pow_le_pow_right (n := 4294967296) (by decide) h))

end Go.Proofs.YtlgdlabhaehdpaaGreat

namespace Go.Proofs.YtlgdlabhaehdpaaGreat
open Go.RowKit

end Go.Proofs.YtlgdlabhaehdpaaGreat

namespace Go.Proofs.YtlgdlabhaehdpaaGreat
open Go.RowKit

set_option maxRecDepth 100000 in
set_option maxHeartbeats 2000000 in
theorem qfew_any (dg0 b m : Nat) (Af : Nat → Option Addr) (nf cf : Nat → Nat) (Df : Nat → Option Addr) (mf df : Nat → Nat) (w : World) (hm : m ≤ 100000000) (_hd0 : dg0 ≤ 1000) (hb : b < w.heap.size) (hc1 : ∀ j, j < m → w.cell? ⟨b, j * 3 + 1, none⟩ = some (.slice (Af j) (nf j) (cf j))) (hc2 : ∀ j, j < m → w.cell? ⟨b, j * 3 + 2, none⟩ = some (.slice (Df j) (mf j) (df j))) (hn : ∀ j, j < m → nf j ≤ 9223372036854775807 ∧ mf j ≤ 9223372036854775807) (B : Bool) (hB : B = decide (∀ j, j < m → nf j ≤ dg0 ∧ mf j ≤ dg0)) :
    Calls Tryz.prog 19 #[.int .i64 dg0, .slice (some ⟨b, 0, none⟩) m m] w (RetB w B) := by
  have HC1 := hid hc1
  have HC2 := hid hc2
  have HN := hid hn
  have HB := hid hB
  clear hc1 hc2 hn hB
  go_enter Tryz.func19, Tryz.ntmps19
  go_wp2_with fail
  go_loopw [5] (fun i wr => ∃ k : Nat, k ≤ m ∧ i = .int .i64 k ∧ Hid ((∀ j, j < k → nf j ≤ dg0 ∧ mf j ≤ dg0) ∧ Below w.heap.size w wr)) (fun i _ => m - (intOf i).toNat)
  case atStart => exact ⟨0, Nat.zero_le _, rfl, hid ⟨fun j hj => absurd hj (by omega), Below.refl _ _⟩⟩
  case round =>
    obtain ⟨k, hk, rfl, hz⟩ := hrel
    rcases Nat.lt_or_ge k m with hlt | hge
    · have hcell1 := (World.cell?_of_block (a := ⟨b, k * 3 + 1, none⟩) (hz.out.2.block b hb)).trans (HC1.out k hlt)
      have hcell2 := (World.cell?_of_block (a := ⟨b, k * 3 + 2, none⟩) (hz.out.2.block b hb)).trans (HC2.out k hlt)
      have hl := HN.out k hlt
      have HZ := hid (fun (h : nf k ≤ dg0 ∧ mf k ≤ dg0) => (fun j hj => by
        rcases Nat.lt_or_ge j k with h1 | h1
        · exact hz.out.1 j h1
        · obtain rfl : j = k := by omega
          exact h : ∀ j, j < k + 1 → nf j ≤ dg0 ∧ mf j ≤ dg0))
      have HF := hid (fun (h : dg0 < nf k ∨ dg0 < mf k) => (decide_eq_false (fun h2 => by have := h2 k hlt; omega) : decide (∀ j, j < m → nf j ≤ dg0 ∧ mf j ≤ dg0) = false))
      have HD := hid hz.out.2
      obtain ⟨A, hA⟩ : ∃ A, A = Af k := ⟨_, rfl⟩
      obtain ⟨n, hn⟩ : ∃ n, n = nf k := ⟨_, rfl⟩
      obtain ⟨c, hc⟩ : ∃ c, c = cf k := ⟨_, rfl⟩
      obtain ⟨D, hD⟩ : ∃ D, D = Df k := ⟨_, rfl⟩
      obtain ⟨l, hll⟩ : ∃ l, l = mf k := ⟨_, rfl⟩
      obtain ⟨d, hd⟩ : ∃ d, d = df k := ⟨_, rfl⟩
      rw [← hA, ← hn, ← hc] at hcell1
      rw [← hD, ← hll, ← hd] at hcell2
      rw [← hn, ← hll] at hl HZ HF
      clear hA hn hc hD hll hd hz
      rcases Nat.lt_or_ge dg0 n with h | h
      · have t1 : decide ((dg0 : Int) < (n : Int)) = true := decide_eq_true (by omega)
        go_wp2_with fail
        go_ret
        exact ⟨ret_bool (by rw [HB.out, HF.out (.inl h)]), HD.out⟩
      · have t1 : decide ((dg0 : Int) < (n : Int)) = false := decide_eq_false (by omega)
        rcases Nat.lt_or_ge dg0 l with h2 | h2
        · have t2 : decide ((dg0 : Int) < (l : Int)) = true := decide_eq_true (by omega)
          go_wp2_with fail
          go_ret
          exact ⟨ret_bool (by rw [HB.out, HF.out (.inr h2)]), HD.out⟩
        · have t2 : decide ((dg0 : Int) < (l : Int)) = false := decide_eq_false (by omega)
          go_wp2_with fail
          go_roundw
          case rel => exact ⟨k + 1, by omega, by go_num, hid ⟨HZ.out ⟨h, h2⟩, HD.out⟩⟩
          case measure => simp [intOf]; omega
    · obtain rfl : k = m := by omega
      go_wp2_with fail
      go_ret
      exact ⟨by rw [HB.out]; exact congrArg (fun x => Ending.returned (Value.bool x)) (decide_eq_true hz.out.1).symm, hz.out.2⟩
/-- Few of one, two, three fractions that lie in a block. -/
theorem qfew1 {W : World} {k b t : Nat} {g : Bool} {A D : Option Addr} {n c m d : Nat} (hk : k ≤ 1000) (h : Blk W b [.bool g, .slice A n c, .slice D m d] t) (hn : n ≤ 9223372036854775807) (hm : m ≤ 9223372036854775807) :
    Calls Tryz.prog 19 #[.int .i64 k, .slice (some ⟨b, 0, none⟩) 1 1] W (RetB W (decide (n ≤ k ∧ m ≤ k))) := by
  refine qfew_any k b 1 (fun _ => A) (fun _ => n) (fun _ => c) (fun _ => D) (fun _ => m) (fun _ => d) _ (by omega) hk h.lt (fun j hj => ?_) (fun j hj => ?_) (fun j hj => ⟨hn, hm⟩) _ ?_
  · obtain rfl : j = 0 := by omega
    exact Blk.cell h 1
  · obtain rfl : j = 0 := by omega
    exact Blk.cell h 2
  · exact decide_eq_decide.2 ⟨fun h j _ => h, fun h => h 0 (by omega)⟩
theorem qfew2 {W : World} {k b t : Nat} {g1 g2 : Bool} {A1 D1 A2 D2 : Option Addr} {n1 c1 m1 d1 n2 c2 m2 d2 : Nat} (hk : k ≤ 1000) (h : Blk W b [.bool g1, .slice A1 n1 c1, .slice D1 m1 d1, .bool g2, .slice A2 n2 c2, .slice D2 m2 d2] t) (h1 : n1 ≤ 9223372036854775807) (h2 : m1 ≤ 9223372036854775807) (h3 : n2 ≤ 9223372036854775807) (h4 : m2 ≤ 9223372036854775807) :
    Calls Tryz.prog 19 #[.int .i64 k, .slice (some ⟨b, 0, none⟩) 2 2] W (RetB W (decide ((n1 ≤ k ∧ m1 ≤ k) ∧ (n2 ≤ k ∧ m2 ≤ k)))) := by
  refine qfew_any k b 2 (fun j => if j = 0 then A1 else A2) (fun j => if j = 0 then n1 else n2) (fun j => if j = 0 then c1 else c2) (fun j => if j = 0 then D1 else D2) (fun j => if j = 0 then m1 else m2) (fun j => if j = 0 then d1 else d2) _ (by omega) hk h.lt (fun j hj => ?_) (fun j hj => ?_) (fun j hj => ?_) _ ?_
  · rcases (by omega : j = 0 ∨ j = 1) with rfl | rfl
    · exact Blk.cell h 1
    · exact Blk.cell h 4
  · rcases (by omega : j = 0 ∨ j = 1) with rfl | rfl
    · exact Blk.cell h 2
    · exact Blk.cell h 5
  · rcases (by omega : j = 0 ∨ j = 1) with rfl | rfl
    · exact ⟨h1, h2⟩
    · exact ⟨h3, h4⟩
  · refine decide_eq_decide.2 ⟨fun h j hj => ?_, fun h => ⟨h 0 (by omega), h 1 (by omega)⟩⟩
    rcases (by omega : j = 0 ∨ j = 1) with rfl | rfl
    · exact h.1
    · exact h.2
theorem qfew3 {W : World} {k b t : Nat} {g1 g2 g3 : Bool} {A1 D1 A2 D2 A3 D3 : Option Addr} {n1 c1 m1 d1 n2 c2 m2 d2 n3 c3 m3 d3 : Nat} (hk : k ≤ 1000) (h : Blk W b [.bool g1, .slice A1 n1 c1, .slice D1 m1 d1, .bool g2, .slice A2 n2 c2, .slice D2 m2 d2, .bool g3, .slice A3 n3 c3, .slice D3 m3 d3] t) (h1 : n1 ≤ 9223372036854775807) (h2 : m1 ≤ 9223372036854775807) (h3 : n2 ≤ 9223372036854775807) (h4 : m2 ≤ 9223372036854775807) (h5 : n3 ≤ 9223372036854775807) (h6 : m3 ≤ 9223372036854775807) :
    Calls Tryz.prog 19 #[.int .i64 k, .slice (some ⟨b, 0, none⟩) 3 3] W (RetB W (decide ((n1 ≤ k ∧ m1 ≤ k) ∧ (n2 ≤ k ∧ m2 ≤ k) ∧ (n3 ≤ k ∧ m3 ≤ k)))) := by
  refine qfew_any k b 3 (fun j => if j = 0 then A1 else if j = 1 then A2 else A3) (fun j => if j = 0 then n1 else if j = 1 then n2 else n3) (fun j => if j = 0 then c1 else if j = 1 then c2 else c3) (fun j => if j = 0 then D1 else if j = 1 then D2 else D3) (fun j => if j = 0 then m1 else if j = 1 then m2 else m3) (fun j => if j = 0 then d1 else if j = 1 then d2 else d3) _ (by omega) hk h.lt (fun j hj => ?_) (fun j hj => ?_) (fun j hj => ?_) _ ?_
  · rcases (by omega : j = 0 ∨ j = 1 ∨ j = 2) with rfl | rfl | rfl
    · exact Blk.cell h 1
    · exact Blk.cell h 4
    · exact Blk.cell h 7
  · rcases (by omega : j = 0 ∨ j = 1 ∨ j = 2) with rfl | rfl | rfl
    · exact Blk.cell h 2
    · exact Blk.cell h 5
    · exact Blk.cell h 8
  · rcases (by omega : j = 0 ∨ j = 1 ∨ j = 2) with rfl | rfl | rfl
    · exact ⟨h1, h2⟩
    · exact ⟨h3, h4⟩
    · exact ⟨h5, h6⟩
  · refine decide_eq_decide.2 ⟨fun h j hj => ?_, fun h => ⟨h 0 (by omega), h 1 (by omega), h 2 (by omega)⟩⟩
    rcases (by omega : j = 0 ∨ j = 1 ∨ j = 2) with rfl | rfl | rfl
    · exact h.1
    · exact h.2.1
    · exact h.2.2

end Go.Proofs.YtlgdlabhaehdpaaGreat

namespace Go.Proofs.YtlgdlabhaehdpaaGreat
open Go.RowKit

end Go.Proofs.YtlgdlabhaehdpaaGreat

namespace Go.Proofs.YtlgdlabhaehdpaaGreat
open Go.RowKit

theorem pv_cross {p q p1 q1 : Int} (h : q ≠ 0) (h1 : q1 ≠ 0) : pv (p * q1) (p1 * q) = pv p q / pv p1 q1 := by
  have a := ic_ne h
  have b := ic_ne h1
  unfold pv
  rw [Rat.intCast_mul, Rat.intCast_mul]
  by_cases hz : p1 = 0
  · subst hz
    rw [Rat.intCast_zero]
    grind
  · have c := ic_ne hz
    grind

end Go.Proofs.YtlgdlabhaehdpaaGreat
