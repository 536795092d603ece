/- Contracts: few of the laws of layer 1. -/
import Derived.Test.YtojcjhnhajjppaaAwk
namespace Go.Proofs.Ytojcjhnhajjppaa
open Go.RowKit

set_option maxRecDepth 100000 in
set_option maxHeartbeats 1000000 in
theorem few_any (b m : Nat) (Af : Nat → Option Addr) (nf cf : Nat → Nat) (w : World) (hm : m ≤ 100) (hc : ∀ j, j < m → w.cell? ⟨b, j, none⟩ = some (.slice (Af j) (nf j) (cf j))) (hn : ∀ j, j < m → nf j ≤ 9223372036854775807) (B : Bool) (hB : B = decide (∀ j, j < m → nf j ≤ 12)) :
    Calls Try.prog 18 #[.slice (some ⟨b, 0, none⟩) m m] w fun e w' => e = .returned (.bool B) ∧ w = w' := by
  have HC := hid hc
  have HN := hid hn
  have HB := hid hB
  clear hc hn hB
  go_enter Try.func18, Try.ntmps18
  go_wp2_with fail
  go_loop [7] (fun i => ∃ k : Nat, k ≤ m ∧ i = .int .i64 k ∧ Hid (∀ j, j < k → nf j ≤ 12)) (fun i => m - (intOf i).toNat)
  case atStart => exact ⟨0, Nat.zero_le _, rfl, hid (fun j hj => absurd hj (by omega))⟩
  case round =>
    obtain ⟨k, hk, rfl, hz⟩ := hrel
    rcases Nat.lt_or_ge k m with hlt | hge
    · have hcell := HC.out k hlt
      have hl := HN.out k hlt
      have HZ := hid (fun (h : nf k ≤ 12) => (fun j hj => by
        rcases Nat.lt_or_ge j k with h1 | h1
        · exact hz.out j h1
        · obtain rfl : j = k := by omega
          exact h : ∀ j, j < k + 1 → nf j ≤ 12))
      have HF := hid (fun (h : 12 < nf k) => (decide_eq_false (fun h2 => by have := h2 k hlt; omega) : decide (∀ j, j < m → nf j ≤ 12) = false))
      obtain ⟨A, hA⟩ : ∃ A, A = Af k := ⟨_, rfl⟩
      obtain ⟨n, hn⟩ : ∃ n, n = nf k := ⟨_, rfl⟩
      obtain ⟨c, hc⟩ : ∃ c, c = cf k := ⟨_, rfl⟩
      rw [← hA, ← hn, ← hc] at hcell
      rw [← hn] at hl HZ HF
      clear hA hn hc hz
      rcases Nat.lt_or_ge 12 n with h | h
      · go_wp2_with fail
        go_ret
        exact ⟨ret_bool (by rw [HB.out, HF.out h]), rfl⟩
      · go_wp2_with fail
        go_round
        case rel => exact ⟨k + 1, by omega, by go_num, hid (HZ.out h)⟩
        case measure => simp [intOf]; omega
    · obtain rfl : k = m := by omega
      go_wp2_with fail
      go_ret
      exact ⟨ret_bool (by rw [HB.out]; exact decide_eq_true hz.out), rfl⟩

/-- few of one, two, three slices that lie in a new block. -/
theorem few1 (w : World) (A : Option Addr) (n c : Nat) (hn : n ≤ 9223372036854775807) :
    Calls Try.prog 18 #[.slice (some ⟨w.heap.size, 0, none⟩) 1 1] (w.alloc (.cells #[.slice A n c] 23)) fun e w' => e = .returned (.bool (decide (n ≤ 12))) ∧ w.alloc (.cells #[.slice A n c] 23) = w' := by
  have h := Blk.new w [.slice A n c] 23
  refine few_any w.heap.size 1 (fun _ => A) (fun _ => n) (fun _ => c) _ (by omega) (fun j hj => ?_) (fun j hj => hn) _ ?_
  · obtain rfl : j = 0 := by omega
    exact Blk.cell h 0
  · exact decide_eq_decide.2 ⟨fun h j _ => h, fun h => h 0 (by omega)⟩
theorem few2 (w : World) (A B : Option Addr) (n c m d : Nat) (hn : n ≤ 9223372036854775807) (hm : m ≤ 9223372036854775807) :
    Calls Try.prog 18 #[.slice (some ⟨w.heap.size, 0, none⟩) 2 2] (w.alloc (.cells #[.slice A n c, .slice B m d] 23)) fun e w' => e = .returned (.bool (decide (n ≤ 12 ∧ m ≤ 12))) ∧ w.alloc (.cells #[.slice A n c, .slice B m d] 23) = w' := by
  have h := Blk.new w [.slice A n c, .slice B m d] 23
  refine few_any w.heap.size 2 (fun j => if j = 0 then A else B) (fun j => if j = 0 then n else m) (fun j => if j = 0 then c else d) _ (by omega) (fun j hj => ?_) (fun j hj => by split <;> assumption) _ ?_
  · rcases (by omega : j = 0 ∨ j = 1) with rfl | rfl
    · exact Blk.cell h 0
    · exact Blk.cell h 1
  · refine decide_eq_decide.2 ⟨fun h j _ => by split; exact h.1; exact h.2, fun h => ⟨h 0 (by omega), h 1 (by omega)⟩⟩
theorem few3 (w : World) (A B C : Option Addr) (n c m d l f : Nat) (hn : n ≤ 9223372036854775807) (hm : m ≤ 9223372036854775807) (hl : l ≤ 9223372036854775807) :
    Calls Try.prog 18 #[.slice (some ⟨w.heap.size, 0, none⟩) 3 3] (w.alloc (.cells #[.slice A n c, .slice B m d, .slice C l f] 23)) fun e w' => e = .returned (.bool (decide (n ≤ 12 ∧ m ≤ 12 ∧ l ≤ 12))) ∧ w.alloc (.cells #[.slice A n c, .slice B m d, .slice C l f] 23) = w' := by
  have h := Blk.new w [.slice A n c, .slice B m d, .slice C l f] 23
  refine few_any w.heap.size 3 (fun j => if j = 0 then A else if j = 1 then B else C) (fun j => if j = 0 then n else if j = 1 then m else l) (fun j => if j = 0 then c else if j = 1 then d else f) _ (by omega) (fun j hj => ?_) (fun j hj => by split; assumption; split <;> assumption) _ ?_
  · rcases (by omega : j = 0 ∨ j = 1 ∨ j = 2) with rfl | rfl | rfl
    · exact Blk.cell h 0
    · exact Blk.cell h 1
    · exact Blk.cell h 2
  · refine decide_eq_decide.2 ⟨fun h j _ => by split; exact h.1; split; exact h.2.1; exact h.2.2, fun h => ⟨h 0 (by omega), h 1 (by omega), h 2 (by omega)⟩⟩

end Go.Proofs.Ytojcjhnhajjppaa
