/- The examples of chapter 1, as numbers and texts. -/
import Derived.Test.YthbogaindaflpaaGreatDoorParA
namespace Go.Proofs.YthbogaindaflpaaGreatDoor
open Go.RowKit

theorem tx_lit {ds : List Nat} {n : Nat} (h : Decs_t ds) (hf : Full10 ds) (hv : val10 ds = n) (h0 : n ≠ 0) : tx n = (ds.map ch).reverse := by
  unfold tx
  rw [if_neg h0, ← hv, dg_of_full_t h hf]
theorem decs_lit {ds : List Nat} (h : ds.all (fun x => decide (x < 10)) = true) : Decs_t ds := by
  intro x hx
  rw [List.all_eq_true] at h
  simpa using h x hx
theorem tx_one : tx 18446744065119617025 = [49, 56, 52, 52, 54, 55, 52, 52, 48, 54, 53, 49, 49, 57, 54, 49, 55, 48, 50, 53] :=
  tx_lit (ds := [5, 2, 0, 7, 1, 6, 9, 1, 1, 5, 6, 0, 4, 4, 7, 6, 4, 4, 8, 1]) (decs_lit (by decide)) (.inr (by decide)) (by decide) (by decide)
theorem tx_two : tx 14285714285714285714 = [49, 52, 50, 56, 53, 55, 49, 52, 50, 56, 53, 55, 49, 52, 50, 56, 53, 55, 49, 52] :=
  tx_lit (ds := [4, 1, 7, 5, 8, 2, 4, 1, 7, 5, 8, 2, 4, 1, 7, 5, 8, 2, 4, 1]) (decs_lit (by decide)) (.inr (by decide)) (by decide) (by decide)
def hund : List UInt8 := [49, 48, 48, 48, 48, 48, 48, 48, 48, 48, 48, 48, 48, 48, 48, 48, 48, 48, 48, 48, 48]
theorem par_hund : parD hund = dg 100000000000000000000 ∧ parE hund = 0 := by
  have h1 : isT hund = true := by decide
  have h2 : numT hund = 100000000000000000000 := by decide
  unfold parD parE
  rw [h1, h2]
  exact ⟨rfl, rfl⟩
theorem dg_lit {ds : List Nat} (h : Digs ds) (hf : Full ds) (n : Nat) (hv : val ds = n) : dg n = ds := by rw [← hv, dg_of_full h hf]
theorem dg_sq : dg 18446744065119617025 = [1, 4294967294] := dg_lit (Digs.cons (by omega) (Digs.cons (by omega) Digs.nil)) (.inr (by decide)) _ (by decide)
theorem dg_two : dg 2 = [2] := dg_lit (Digs.cons (by omega) Digs.nil) (.inr (by decide)) _ (by decide)

theorem hund_len : (dg 100000000000000000000).length ≤ 100 := Nat.le_trans (dg_len_le (k := 3) (by omega)) (by omega)
theorem quo_seven : quoD 100000000000000000000 7 = dg 14285714285714285714 := by
  unfold quoD
  rw [if_neg (by decide)]
theorem rem_seven : remD 100000000000000000000 7 = dg 2 := by
  unfold remD
  rw [if_neg (by decide)]
theorem div_seven : divE 7 = 0 := by
  unfold divE
  rw [if_neg (by decide)]

end Go.Proofs.YthbogaindaflpaaGreatDoor
