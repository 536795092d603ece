/- The example of layer 4. -/
import Derived.Test.YthbogaindaflpaaGreatDoorFmf
import Derived.Test.YthbogaindaflpaaGreatDoorExs
import Derived.Deep.DeepCutAuto
import Derived.BigQuiet
namespace Go.Proofs.YthbogaindaflpaaGreatDoor
open Go.RowKit

/-- The data of the example. -/
def exF (V R T : Nat) : PD := { V0 := some ⟨V, 0, none⟩, vn := 2, vc := 2, lo := fun i => if i = 0 then 0 else 1, up := fun i => if i = 0 then 3 else 0, op := fun i => if i = 0 then false else true, it := fun _ => false, co := fun i => if i = 0 then 2 else -1, R0 := some ⟨R, 0, none⟩, rn := 1, rc := 1, nm := fun _ => ⟨#[114]⟩, gr := fun _ => 4, ki := fun _ => 0, bo := fun _ => -2, TA := fun _ => some ⟨T, 0, none⟩, tn := fun _ => 2, tc := fun _ => 2, v := fun _ t => (t : Int), cf := fun _ t => if t = 0 then 1 else -2 }
def RetE4 (w : World) (e : Ending) (w' : World) : Prop := ∃ V R T, e = .returned (.agg #[.slice (some ⟨V, 0, none⟩) 2 2, .slice (some ⟨R, 0, none⟩) 1 1]) ∧ Pg w' (exF V R T) ∧ Below w.heap.size w w'
theorem exf_pg {w : World} {V R T tv tr tt : Nat} (k1 : Blk w V [.int .i64 0, .int .i64 3, .bool false, .bool false, .int .i64 2, .int .i64 1, .int .i64 0, .bool true, .bool false, .int .i64 (-1)] tv) (k2 : Blk w R [.string ⟨#[114]⟩, .int .i64 4, .int .i64 0, .slice (some ⟨T, 0, none⟩) 2 2, .int .i64 (-2)] tr) (k3 : Blk w T [.int .i64 0, .int .i64 1, .int .i64 1, .int .i64 (-2)] tt) : Pg w (exF V R T) := by
  refine ⟨⟨Nat.le_refl 2, by show (2 : Nat) ≤ _; omega, fun j hj => ?_, fun _ => ⟨V, 0, rfl, k1.lt, fun j hj => ?_⟩⟩, ⟨Nat.le_refl 1, by show (1 : Nat) ≤ _; omega, fun j hj => ⟨by show (-9223372036854775808 : Int) ≤ 0 ∧ (0 : Int) ≤ _; omega, by show (-9223372036854775808 : Int) ≤ -2 ∧ (-2 : Int) ≤ _; omega, by show (-9223372036854775808 : Int) ≤ 4 ∧ (4 : Int) ≤ _; omega, ?_⟩, fun _ => ⟨R, 0, rfl, k2.lt, fun j hj => ?_⟩⟩, fun j hj => by show (1 : Nat) ≤ _; omega, by show (2 : Nat) ≤ _; omega, by show (1 : Nat) ≤ _; omega, fun j hj => by show (2 : Nat) ≤ _; omega⟩
  · show (-9223372036854775808 ≤ (if j = 0 then (0 : Int) else 1) ∧ (if j = 0 then (0 : Int) else 1) ≤ _) ∧ (-9223372036854775808 ≤ (if j = 0 then (3 : Int) else 0) ∧ (if j = 0 then (3 : Int) else 0) ≤ _) ∧ -9223372036854775808 ≤ (if j = 0 then (2 : Int) else -1) ∧ (if j = 0 then (2 : Int) else -1) ≤ _
    split <;> omega
  · have hj : j < 2 := hj
    have : j = 0 ∨ j = 1 := by omega
    rcases this with rfl | rfl
    · exact ⟨k1.cell 0, k1.cell 1, k1.cell 2, k1.cell 3, k1.cell 4⟩
    · exact ⟨k1.cell 5, k1.cell 6, k1.cell 7, k1.cell 8, k1.cell 9⟩
  · refine ⟨Nat.le_refl 2, by show (2 : Nat) ≤ _; omega, fun t ht => ?_, fun _ => ⟨T, 0, rfl, k3.lt, fun t ht => ?_⟩⟩
    · have ht : t < 2 := ht
      show (-9223372036854775808 ≤ (t : Int) ∧ (t : Int) ≤ _) ∧ -9223372036854775808 ≤ (if t = 0 then (1 : Int) else -2) ∧ (if t = 0 then (1 : Int) else -2) ≤ _
      split <;> omega
    · have ht : t < 2 := ht
      have : t = 0 ∨ t = 1 := by omega
      rcases this with rfl | rfl
      · exact ⟨k3.cell 0, k3.cell 1⟩
      · exact ⟨k3.cell 2, k3.cell 3⟩
  · have hj : j < 1 := hj
    obtain rfl : j = 0 := by omega
    exact ⟨k2.cell 0, k2.cell 1, k2.cell 2, k2.cell 3, k2.cell 4⟩
theorem exf_text (V R T : Nat) : fmtL (exF V R T).okB 2 1 (vTx (exF V R T).lo (exF V R T).up (exF V R T).op (exF V R T).it (exF V R T).co) (rTx (exF V R T).nm (exF V R T).gr (exF V R T).ki (exF V R T).bo (exF V R T).tn (exF V R T).v (exF V R T).cf) = [[120, 48, 32, 105, 110, 32, 91, 48, 44, 32, 51, 93, 32, 114, 101, 97, 108, 32, 99, 111, 115, 116, 32, 50], [120, 49, 32, 105, 110, 32, 91, 49, 44, 32, 111, 112, 101, 110, 41, 32, 114, 101, 97, 108, 32, 99, 111, 115, 116, 32, 45, 49], [114, 32, 40, 52, 41, 58, 32, 120, 48, 32, 45, 32, 50, 32, 120, 49, 32, 60, 61, 32, 45, 50]] :=
  (show fmtL (exF 0 0 0).okB 2 1 (vTx (exF 0 0 0).lo (exF 0 0 0).up (exF 0 0 0).op (exF 0 0 0).it (exF 0 0 0).co) (rTx (exF 0 0 0).nm (exF 0 0 0).gr (exF 0 0 0).ki (exF 0 0 0).bo (exF 0 0 0).tn (exF 0 0 0).v (exF 0 0 0).cf) = [[120, 48, 32, 105, 110, 32, 91, 48, 44, 32, 51, 93, 32, 114, 101, 97, 108, 32, 99, 111, 115, 116, 32, 50], [120, 49, 32, 105, 110, 32, 91, 49, 44, 32, 111, 112, 101, 110, 41, 32, 114, 101, 97, 108, 32, 99, 111, 115, 116, 32, 45, 49], [114, 32, 40, 52, 41, 58, 32, 120, 48, 32, 45, 32, 50, 32, 120, 49, 32, 60, 61, 32, 45, 50]] by decide +kernel)
set_option maxRecDepth 100000 in
set_option maxHeartbeats 4000000 in
theorem d_ex4 (w : World) : Calls Tryz.prog 53 #[] w (RetE4 w) := by
  go_enter Tryz.func53, Tryz.ntmps53
  go_wp2_with fail
  have K1 := Blk.new (w.alloc (.cells #[.slice (some ⟨w.heap.size + 1, 0, none⟩) 2 2, .slice (some ⟨w.heap.size + 1 + 1 + 1, 0, none⟩) 1 1] 25)) [.int .i64 0, .int .i64 3, .bool false, .bool false, .int .i64 2, .int .i64 1, .int .i64 0, .bool true, .bool false, .int .i64 (-1)] 60
  obtain ⟨W1, h1⟩ : ∃ W, W = (w.alloc (.cells #[.slice (some ⟨w.heap.size + 1, 0, none⟩) 2 2, .slice (some ⟨w.heap.size + 1 + 1 + 1, 0, none⟩) 1 1] 25)).alloc (.cells #[.int .i64 0, .int .i64 3, .bool false, .bool false, .int .i64 2, .int .i64 1, .int .i64 0, .bool true, .bool false, .int .i64 (-1)] 60) := ⟨_, rfl⟩
  have B1 := bx_alloc (bx_alloc (bx_refl w) (.cells #[.slice (some ⟨w.heap.size + 1, 0, none⟩) 2 2, .slice (some ⟨w.heap.size + 1 + 1 + 1, 0, none⟩) 1 1] 25)) (.cells #[.int .i64 0, .int .i64 3, .bool false, .bool false, .int .i64 2, .int .i64 1, .int .i64 0, .bool true, .bool false, .int .i64 (-1)] 60)
  have s1 : W1.heap.size = w.heap.size + 1 + 1 := by rw [h1]; simp
  have s0 : (w.alloc (.cells #[.slice (some ⟨w.heap.size + 1, 0, none⟩) 2 2, .slice (some ⟨w.heap.size + 1 + 1 + 1, 0, none⟩) 1 1] 25)).heap.size = w.heap.size + 1 := by simp
  rw [s0] at K1
  change Blk ((w.alloc (.cells #[.slice (some ⟨w.heap.size + 1, 0, none⟩) 2 2, .slice (some ⟨w.heap.size + 1 + 1 + 1, 0, none⟩) 1 1] 25)).alloc (.cells #[.int .i64 0, .int .i64 3, .bool false, .bool false, .int .i64 2, .int .i64 1, .int .i64 0, .bool true, .bool false, .int .i64 (-1)] 60)) _ _ _ at K1
  rw [← h1] at B1 K1
  have K3 := Blk.new W1 [.int .i64 0, .int .i64 1, .int .i64 1, .int .i64 (-2)] 94
  have K2 := blk_new1 W1 (.cells #[.int .i64 0, .int .i64 1, .int .i64 1, .int .i64 (-2)] 94) [.string ⟨#[114]⟩, .int .i64 4, .int .i64 0, .slice (some ⟨w.heap.size + 1 + 1, 0, none⟩) 2 2, .int .i64 (-2)] 77
  rw [s1] at K3 K2
  have PG := hid (exf_pg ((K1.alloc _).alloc _) K2 (K3.alloc _))
  have K0 := Blk.new w [.slice (some ⟨w.heap.size + 1, 0, none⟩) 2 2, .slice (some ⟨w.heap.size + 1 + 1 + 1, 0, none⟩) 1 1] 25
  have K0 := K0.alloc (.cells #[.int .i64 0, .int .i64 3, .bool false, .bool false, .int .i64 2, .int .i64 1, .int .i64 0, .bool true, .bool false, .int .i64 (-1)] 60)
  change Blk ((w.alloc (.cells #[.slice (some ⟨w.heap.size + 1, 0, none⟩) 2 2, .slice (some ⟨w.heap.size + 1 + 1 + 1, 0, none⟩) 1 1] 25)).alloc (.cells #[.int .i64 0, .int .i64 3, .bool false, .bool false, .int .i64 2, .int .i64 1, .int .i64 0, .bool true, .bool false, .int .i64 (-1)] 60)) _ _ _ at K0
  rw [← h1] at K0
  obtain ⟨r0, r1⟩ := blk_two ((K0.alloc (.cells #[.int .i64 0, .int .i64 1, .int .i64 1, .int .i64 (-2)] 94)).alloc (.cells #[.string ⟨#[114]⟩, .int .i64 4, .int .i64 0, .slice (some ⟨w.heap.size + 1 + 1, 0, none⟩) 2 2, .int .i64 (-2)] 77))
  have BB := hid (bx_alloc (bx_alloc B1 (.cells #[.int .i64 0, .int .i64 1, .int .i64 1, .int .i64 (-2)] 94)) (.cells #[.string ⟨#[114]⟩, .int .i64 4, .int .i64 0, .slice (some ⟨w.heap.size + 1 + 1, 0, none⟩) 2 2, .int .i64 (-2)] 77))
  clear K0 K1 K2 K3 B1 s0 s1
  rw [← h1]
  clear h1
  exact bodyPost_ret (v := .agg #[.slice (some ⟨w.heap.size + 1, 0, none⟩) 2 2, .slice (some ⟨w.heap.size + 1 + 1 + 1, 0, none⟩) 1 1]) (by simp [results, Tryz.results53, go_sem, r0, r1]) rfl ⟨_, _, _, rfl, PG.out, BB.out⟩
theorem ints_01 (W : World) (b : Nat) (K : Blk W b [.int .i64 0, .int .i64 1] 2) : Calls Tryz.prog 54 #[.slice (some ⟨b, 0, none⟩) 2 2] W (RetQs W 2 2 (fun i => (((i : Nat) : Int) : Rat))) :=
  rints _ 2 2 (fun i => ((i : Nat) : Int)) _ ⟨Nat.le_refl _, by omega, fun _ => ⟨b, 0, rfl, K.lt, fun j hj => by
    rw [K.cell, Nat.zero_add]
    have : j = 0 ∨ j = 1 := by omega
    rcases this with rfl | rfl <;> rfl⟩⟩ (fun j hj => by show -9223372036854775808 ≤ ((j : Nat) : Int) ∧ ((j : Nat) : Int) ≤ _; omega) (by omega)

end Go.Proofs.YthbogaindaflpaaGreatDoor
