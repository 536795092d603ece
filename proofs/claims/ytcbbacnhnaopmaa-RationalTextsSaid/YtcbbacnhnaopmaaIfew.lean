/- Contracts: few of the laws of layer 2. -/
import Derived.Test.YtcbbacnhnaopmaaRinA
import Derived.Test.YtcbbacnhnaopmaaAid
namespace Go.Proofs.Ytcbbacnhnaopmaa
open Go.RowKit

set_option maxRecDepth 100000 in
set_option maxHeartbeats 1000000 in
theorem ifew_any (b m : Nat) (gf : Nat → Bool) (Af : Nat → Option Addr) (nf cf : Nat → Nat) (w : World) (hm : m ≤ 100) (hb : b < w.heap.size) (hc0 : ∀ j, j < m → w.cell? ⟨b, j * 2, none⟩ = some (.bool (gf j))) (hc : ∀ j, j < m → w.cell? ⟨b, j * 2 + 1, none⟩ = some (.slice (Af j) (nf j) (cf j))) (hn : ∀ j, j < m → nf j ≤ 9223372036854775807) (B : Bool) (hB : B = decide (∀ j, j < m → nf j ≤ 10)) :
    Calls Try.prog 18 #[.slice (some ⟨b, 0, none⟩) m m] w (RetB w B) := by
  have HC := hid hc
  have HC0 := hid hc0
  have HN := hid hn
  have HB := hid hB
  clear hc hc0 hn hB
  go_enter Try.func18, Try.ntmps18
  go_wp2_with fail
  go_loopw [7] (fun i wr => ∃ k : Nat, k ≤ m ∧ i = .int .i64 k ∧ Hid ((∀ j, j < k → nf j ≤ 10) ∧ Below w.heap.size w wr)) (fun i _ => m - (intOf i).toNat)
  case atStart => exact ⟨0, Nat.zero_le _, rfl, hid ⟨fun j hj => absurd hj (by omega), Below.refl _ _⟩⟩
  case round =>
    obtain ⟨k, hk, rfl, hz⟩ := hrel
    rcases Nat.lt_or_ge k m with hlt | hge
    · have hcell0 := (World.cell?_of_block (a := ⟨b, k * 2, none⟩) (hz.out.2.block b hb)).trans (HC0.out k hlt)
      have hcell := (World.cell?_of_block (a := ⟨b, k * 2 + 1, none⟩) (hz.out.2.block b hb)).trans (HC.out k hlt)
      have hl := HN.out k hlt
      have HZ := hid (fun (h : nf k ≤ 10) => (fun j hj => by
        rcases Nat.lt_or_ge j k with h1 | h1
        · exact hz.out.1 j h1
        · obtain rfl : j = k := by omega
          exact h : ∀ j, j < k + 1 → nf j ≤ 10))
      have HF := hid (fun (h : 10 < nf k) => (decide_eq_false (fun h2 => by have := h2 k hlt; omega) : decide (∀ j, j < m → nf j ≤ 10) = false))
      have HD := hid (fun (o : Obj) => hz.out.2.alloc hz.out.2.size o)
      obtain ⟨g, hg⟩ : ∃ g, g = gf k := ⟨_, rfl⟩
      obtain ⟨A, hA⟩ : ∃ A, A = Af k := ⟨_, rfl⟩
      obtain ⟨n, hn⟩ : ∃ n, n = nf k := ⟨_, rfl⟩
      obtain ⟨c, hc⟩ : ∃ c, c = cf k := ⟨_, rfl⟩
      rw [← hg] at hcell0
      rw [← hA, ← hn, ← hc] at hcell
      rw [← hn] at hl HZ HF
      clear hg hA hn hc hz
      rcases Nat.lt_or_ge 10 n with h | h
      · go_wp2_with fail
        go_ret
        exact ⟨ret_bool (by rw [HB.out, HF.out h]), HD.out _⟩
      · go_wp2_with fail
        go_roundw
        case rel => exact ⟨k + 1, by omega, by go_num, hid ⟨HZ.out h, HD.out _⟩⟩
        case measure => simp [intOf]; omega
    · obtain rfl : k = m := by omega
      go_wp2_with fail
      go_ret
      exact ⟨by rw [HB.out]; exact congrArg (fun x => Ending.returned (Value.bool x)) (decide_eq_true hz.out.1).symm, hz.out.2⟩
/-- few of one, two, three integers that lie in a block. -/
theorem ifew1 {W : World} {b t : Nat} {g : Bool} {A : Option Addr} {n c : Nat} (h : Blk W b [.bool g, .slice A n c] t) (hn : n ≤ 9223372036854775807) :
    Calls Try.prog 18 #[.slice (some ⟨b, 0, none⟩) 1 1] W (RetB W (decide (n ≤ 10))) := by
  refine ifew_any b 1 (fun _ => g) (fun _ => A) (fun _ => n) (fun _ => c) _ (by omega) h.lt (fun j hj => ?_) (fun j hj => ?_) (fun j hj => hn) _ ?_
  · obtain rfl : j = 0 := by omega
    exact Blk.cell h 0
  · obtain rfl : j = 0 := by omega
    exact Blk.cell h 1
  · exact decide_eq_decide.2 ⟨fun h j _ => h, fun h => h 0 (by omega)⟩
theorem ifew2 {W : World} {b t : Nat} {g1 g2 : Bool} {A B : Option Addr} {n c m d : Nat} (h : Blk W b [.bool g1, .slice A n c, .bool g2, .slice B m d] t) (hn : n ≤ 9223372036854775807) (hm : m ≤ 9223372036854775807) :
    Calls Try.prog 18 #[.slice (some ⟨b, 0, none⟩) 2 2] W (RetB W (decide (n ≤ 10 ∧ m ≤ 10))) := by
  refine ifew_any b 2 (fun j => if j = 0 then g1 else g2) (fun j => if j = 0 then A else B) (fun j => if j = 0 then n else m) (fun j => if j = 0 then c else d) _ (by omega) h.lt (fun j hj => ?_) (fun j hj => ?_) (fun j hj => by split <;> assumption) _ ?_
  · rcases (by omega : j = 0 ∨ j = 1) with rfl | rfl
    · exact Blk.cell h 0
    · exact Blk.cell h 2
  · rcases (by omega : j = 0 ∨ j = 1) with rfl | rfl
    · exact Blk.cell h 1
    · exact Blk.cell h 3
  · refine decide_eq_decide.2 ⟨fun h j _ => by split; exact h.1; exact h.2, fun h => ⟨h 0 (by omega), h 1 (by omega)⟩⟩
theorem ifew3 {W : World} {b t : Nat} {g1 g2 g3 : Bool} {A B C : Option Addr} {n c m d l f : Nat} (h : Blk W b [.bool g1, .slice A n c, .bool g2, .slice B m d, .bool g3, .slice C l f] t) (hn : n ≤ 9223372036854775807) (hm : m ≤ 9223372036854775807) (hl : l ≤ 9223372036854775807) :
    Calls Try.prog 18 #[.slice (some ⟨b, 0, none⟩) 3 3] W (RetB W (decide (n ≤ 10 ∧ m ≤ 10 ∧ l ≤ 10))) := by
  refine ifew_any b 3 (fun j => if j = 0 then g1 else if j = 1 then g2 else g3) (fun j => if j = 0 then A else if j = 1 then B else C) (fun j => if j = 0 then n else if j = 1 then m else l) (fun j => if j = 0 then c else if j = 1 then d else f) _ (by omega) h.lt (fun j hj => ?_) (fun j hj => ?_) (fun j hj => by split; assumption; split <;> assumption) _ ?_
  · rcases (by omega : j = 0 ∨ j = 1 ∨ j = 2) with rfl | rfl | rfl
    · exact Blk.cell h 0
    · exact Blk.cell h 2
    · exact Blk.cell h 4
  · rcases (by omega : j = 0 ∨ j = 1 ∨ j = 2) with rfl | rfl | rfl
    · exact Blk.cell h 1
    · exact Blk.cell h 3
    · exact Blk.cell h 5
  · refine decide_eq_decide.2 ⟨fun h j _ => by split; exact h.1; split; exact h.2.1; exact h.2.2, fun h => ⟨h 0 (by omega), h 1 (by omega), h 2 (by omega)⟩⟩

end Go.Proofs.Ytcbbacnhnaopmaa
