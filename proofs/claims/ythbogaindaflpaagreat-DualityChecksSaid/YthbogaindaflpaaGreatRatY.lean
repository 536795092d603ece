/- RatY: RatF, RatG, RatH, RatI, RatJ, RatK in one text. -/
import Derived.Test.YthbogaindaflpaaGreatRatX
namespace Go.Proofs.YthbogaindaflpaaGreat
open Go.RowKit
set_option maxRecDepth 100000
set_option maxHeartbeats 2000000 in
theorem qfew_any (dg0 b m : Nat) (Af : Nat → Option Addr) (nf cf : Nat → Nat) (Df : Nat → Option Addr) (mf df : Nat → Nat) (w : World) (hm : m ≤ 100000000) (_hd0 : dg0 ≤ 1000) (hb : b < w.heap.size) (hc1 : ∀ j, j < m → w.cell? ⟨b, j * 3 + 1, none⟩ = some (.slice (Af j) (nf j) (cf j))) (hc2 : ∀ j, j < m → w.cell? ⟨b, j * 3 + 2, none⟩ = some (.slice (Df j) (mf j) (df j))) (hn : ∀ j, j < m → nf j ≤ 9223372036854775807 ∧ mf j ≤ 9223372036854775807) (B : Bool) (hB : B = decide (∀ j, j < m → nf j ≤ dg0 ∧ mf j ≤ dg0)) :
    Calls Tryz.prog 7 #[.int .i64 dg0, .slice (some ⟨b, 0, none⟩) m m] w (RetB w B) := by
  have HC1 := hid hc1
  have HC2 := hid hc2
  have HN := hid hn
  have HB := hid hB
  clear hc1 hc2 hn hB
  go_enter Tryz.func7, Tryz.ntmps7
  go_wp2_with fail
  go_loopw [5] (fun i wr => ∃ k : Nat, k ≤ m ∧ i = .int .i64 k ∧ Hid ((∀ j, j < k → nf j ≤ dg0 ∧ mf j ≤ dg0) ∧ Below w.heap.size w wr)) (fun i _ => m - (intOf i).toNat)
  case atStart => exact ⟨0, Nat.zero_le _, rfl, hid ⟨fun j hj => absurd hj (by omega), Below.refl _ _⟩⟩
  case round =>
    obtain ⟨k, hk, rfl, hz⟩ := hrel
    rcases Nat.lt_or_ge k m with hlt | hge
    · have hcell1 := (World.cell?_of_block (a := ⟨b, k * 3 + 1, none⟩) (hz.out.2.block b hb)).trans (HC1.out k hlt)
      have hcell2 := (World.cell?_of_block (a := ⟨b, k * 3 + 2, none⟩) (hz.out.2.block b hb)).trans (HC2.out k hlt)
      have hl := HN.out k hlt
      have HZ := hid (fun (h : nf k ≤ dg0 ∧ mf k ≤ dg0) => (fun j hj => by
        rcases Nat.lt_or_ge j k with h1 | h1
        · exact hz.out.1 j h1
        · obtain rfl : j = k := by omega
          exact h : ∀ j, j < k + 1 → nf j ≤ dg0 ∧ mf j ≤ dg0))
      have HF := hid (fun (h : dg0 < nf k ∨ dg0 < mf k) => (decide_eq_false (fun h2 => by have := h2 k hlt; omega) : decide (∀ j, j < m → nf j ≤ dg0 ∧ mf j ≤ dg0) = false))
      have HD := hid hz.out.2
      obtain ⟨A, hA⟩ : ∃ A, A = Af k := ⟨_, rfl⟩
      obtain ⟨n, hn⟩ : ∃ n, n = nf k := ⟨_, rfl⟩
      obtain ⟨c, hc⟩ : ∃ c, c = cf k := ⟨_, rfl⟩
      obtain ⟨D, hD⟩ : ∃ D, D = Df k := ⟨_, rfl⟩
      obtain ⟨l, hll⟩ : ∃ l, l = mf k := ⟨_, rfl⟩
      obtain ⟨d, hd⟩ : ∃ d, d = df k := ⟨_, rfl⟩
      rw [← hA, ← hn, ← hc] at hcell1
      rw [← hD, ← hll, ← hd] at hcell2
      rw [← hn, ← hll] at hl HZ HF
      clear hA hn hc hD hll hd hz
      rcases Nat.lt_or_ge dg0 n with h | h
      · have t1 : decide ((dg0 : Int) < (n : Int)) = true := decide_eq_true (by omega)
        go_wp2_with fail
        go_ret
        exact ⟨ret_bool (by rw [HB.out, HF.out (.inl h)]), HD.out⟩
      · have t1 : decide ((dg0 : Int) < (n : Int)) = false := decide_eq_false (by omega)
        rcases Nat.lt_or_ge dg0 l with h2 | h2
        · have t2 : decide ((dg0 : Int) < (l : Int)) = true := decide_eq_true (by omega)
          go_wp2_with fail
          go_ret
          exact ⟨ret_bool (by rw [HB.out, HF.out (.inr h2)]), HD.out⟩
        · have t2 : decide ((dg0 : Int) < (l : Int)) = false := decide_eq_false (by omega)
          go_wp2_with fail
          go_roundw
          case rel => exact ⟨k + 1, by omega, by go_num, hid ⟨HZ.out ⟨h, h2⟩, HD.out⟩⟩
          case measure => simp [intOf]; omega
    · obtain rfl : k = m := by omega
      go_wp2_with fail
      go_ret
      exact ⟨by rw [HB.out]; exact congrArg (fun x => Ending.returned (Value.bool x)) (decide_eq_true hz.out.1).symm, hz.out.2⟩
theorem qfew1 {W : World} {k b t : Nat} {g : Bool} {A D : Option Addr} {n c m d : Nat} (hk : k ≤ 1000) (h : Blk W b [.bool g, .slice A n c, .slice D m d] t) (hn : n ≤ 9223372036854775807) (hm : m ≤ 9223372036854775807) :
    Calls Tryz.prog 7 #[.int .i64 k, .slice (some ⟨b, 0, none⟩) 1 1] W (RetB W (decide (n ≤ k ∧ m ≤ k))) := by
  refine qfew_any k b 1 (fun _ => A) (fun _ => n) (fun _ => c) (fun _ => D) (fun _ => m) (fun _ => d) _ (by omega) hk h.lt (fun j hj => ?_) (fun j hj => ?_) (fun j hj => ⟨hn, hm⟩) _ ?_
  · obtain rfl : j = 0 := by omega
    exact Blk.cell h 1
  · obtain rfl : j = 0 := by omega
    exact Blk.cell h 2
  · exact decide_eq_decide.2 ⟨fun h j _ => h, fun h => h 0 (by omega)⟩
end Go.Proofs.YthbogaindaflpaaGreat
