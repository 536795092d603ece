/- The line of a variable. -/
import Derived.Test.YthbogaindaflpaaGreatDoorFma
import Derived.Test.YthbogaindaflpaaGreatDoorLinA
import Derived.Deep.DeepCutAuto
import Derived.BigQuiet
namespace Go.Proofs.YthbogaindaflpaaGreatDoor
open Go.RowKit

def upTx (op : Bool) (up : Int) : List UInt8 := if op = true then [111, 112, 101, 110, 41] else Lib.itoa up ++ [93]
def kdTx (it : Bool) : List UInt8 := if it = true then [105, 110, 116, 101, 103, 101, 114] else [114, 101, 97, 108]
def varTx (i : Int) (lo up : Int) (op it : Bool) (co : Int) : List UInt8 := Lib.join [120 :: Lib.itoa i, [105, 110], 91 :: (Lib.itoa lo ++ [44]), upTx op up, kdTx it, [99, 111, 115, 116], Lib.itoa co] [32]
/-- A variable in a box of the call's own. -/
structure Kv (w : World) (cs : List Value) (W : World) : Prop where
  bel : Below w.heap.size w W
  box : Blk W w.heap.size cs 60
theorem Kv.keep {w W W' : World} {cs : List Value} (h : Kv w cs W) (b : Below W.heap.size W W') : Kv w cs W' := ⟨bx_call h.bel b, h.box.keep b⟩
theorem size_of {s : ByteArray} {l : List UInt8} (h : s.data.toList = l) : s.size = l.length := by
  rw [← h]
  show s.data.size = _
  rw [Array.length_toList]

theorem catL (a b : ByteArray) : (a ++ b).data.toList = a.data.toList ++ b.data.toList := by simp
theorem join7 (a b c d e f g s : List UInt8) : Lib.join [a, b, c, d, e, f, g] s = a ++ (s ++ (b ++ (s ++ (c ++ (s ++ (d ++ (s ++ (e ++ (s ++ (f ++ (s ++ g))))))))))) := by
  unfold Lib.join
  simp [List.intercalate]
set_option maxRecDepth 100000 in
set_option maxHeartbeats 8000000 in
theorem f_var (i lo up : Int) (op it : Bool) (co : Int) (w : World) (h0 : -9223372036854775808 ≤ i ∧ i ≤ 9223372036854775807) (h1 : -9223372036854775808 ≤ lo ∧ lo ≤ 9223372036854775807) (h2 : -9223372036854775808 ≤ up ∧ up ≤ 9223372036854775807) (h3 : -9223372036854775808 ≤ co ∧ co ≤ 9223372036854775807) (ht : Tab w) :
    Calls Tryz.prog 59 #[.int .i64 i, .agg #[.int .i64 lo, .int .i64 up, .bool op, .bool it, .int .i64 co]] w (RetTx w (varTx i lo up op it co)) := by
  have CU := hid (fun (W : World) (b : Below w.heap.size w W) => f_decimal up W h2.1 h2.2 (ht.keep b))
  have CL := hid (fun (W : World) (b : Below w.heap.size w W) => f_decimal lo W h1.1 h1.2 (ht.keep b))
  have CC := hid (fun (W : World) (b : Below w.heap.size w W) => f_decimal co W h3.1 h3.2 (ht.keep b))
  have CN := hid (fun (W : World) (b : Below w.heap.size w W) => f_name i W h0.1 h0.2 (ht.keep b))
  have zU := hid (Lib.itoa_length_le up h2.1 h2.2)
  have zL := hid (Lib.itoa_length_le lo h1.1 h1.2)
  have zC := hid (Lib.itoa_length_le co h3.1 h3.2)
  have zN := hid (Lib.itoa_length_le i h0.1 h0.2)
  obtain ⟨W0, hW⟩ : ∃ W, W = w.alloc (.cells #[.int .i64 lo, .int .i64 up, .bool op, .bool it, .int .i64 co] 60) := ⟨_, rfl⟩
  have B0 := bx_alloc (bx_refl w) (.cells #[.int .i64 lo, .int .i64 up, .bool op, .bool it, .int .i64 co] 60)
  have K0 := Blk.new w [.int .i64 lo, .int .i64 up, .bool op, .bool it, .int .i64 co] 60
  change Blk (w.alloc (.cells #[.int .i64 lo, .int .i64 up, .bool op, .bool it, .int .i64 co] 60)) _ _ _ at K0
  rw [← hW] at B0 K0
  have P0 := hid (show Kv w [.int .i64 lo, .int .i64 up, .bool op, .bool it, .int .i64 co] W0 from ⟨B0, K0⟩)
  clear B0 K0 h0 h1 h2 h3 ht
  go_enter Tryz.func59, Tryz.ntmps59
  go_upto_region 1 with fail
  rw [← hW]
  clear hW
  obtain ⟨y0, y1, y2, y3, y4⟩ := blk_fif P0.out.box
  go_wp2_with fail
  refine (CU.out _ P0.out.bel).mono ?_
  rintro e W1 ⟨sU, rfl, eU, b⟩
  have P1 := hid (P0.out.keep b)
  have sz1 : sU.size ≤ 21 := by rw [size_of eU]; exact zU.out
  have EU := hid eU
  clear P0 CU b eU y0 y1 y2 y3 y4 zU
  obtain ⟨y0, y1, y2, y3, y4⟩ := blk_fif P1.out.box
  cases op <;> cases it
  case false.false =>
    go_upto_region 6 with fail
    clear y0 y1 y2 y3 y4
    (try simp only [List.append_eq, List.cons_append, List.nil_append])
    refine wp_region_noPanic ?_
    refine wp_region_held_drew (S := (fun W => W.cell? ⟨w.heap.size, 0, none⟩ = some (.int .i64 lo) ∧ W.cell? ⟨w.heap.size, 1, none⟩ = some (.int .i64 up) ∧ W.cell? ⟨w.heap.size, 2, none⟩ = some (.bool false) ∧ W.cell? ⟨w.heap.size, 3, none⟩ = some (.bool false) ∧ W.cell? ⟨w.heap.size, 4, none⟩ = some (.int .i64 co))) (by kernel_rfl) ?_ (fun hH => ?_)
    exact (blk_fif P1.out.box)
    have bd := bx_drew (bx_refl W1)
    obtain ⟨E0, hW0⟩ : ∃ W, W = W1.drew := ⟨_, rfl⟩
    rw [← hW0] at bd hH ⊢
    clear hW0
    have P2 := hid (P1.out.keep bd)
    clear bd P1
    refine tk 0 hH ?_
    (try simp only [Act.put, gy0, gy1, gy2])
    refine tk 2 hH ?_
    (try simp only [Act.put, gy0, gy1, gy2])
    refine tk 3 hH ?_
    (try simp only [Act.put, gy0, gy1, gy2])
    refine tk 7 hH ?_
    (try simp only [Act.put, gy0, gy1, gy2])
    refine tk 8 hH ?_
    (try simp only [Act.put, gy0, gy1, gy2])
    refine tk 9 hH ?_
    (try simp only [Act.put, gy0, gy1, gy2])
    refine tk 10 hH ?_
    (try simp only [Act.put, gy0, gy1, gy2])
    refine wpAnyH_ready (rs := [1]) (by kernel_rfl) (by simp) ?_
    refine rdy (fun K hK => ?_) AllReadyH.nil
    go_simp
    refine (CN.out _ P2.out.bel).mono ?_
    rintro e v1 ⟨sN, rfl, eN, b⟩
    have P3 := hid (P2.out.keep b)
    have EN := hid eN
    clear b hH P2 CN eN
    (try go_wp2_with fail)
    refine hK.out _ _ ?_ (fun hH => ?_)
    exact (blk_fif P3.out.box)
    clear hK K
    (try simp only [Act.put, gy0, gy1, gy2])
    refine wpAnyH_ready (rs := [4]) (by kernel_rfl) (by simp) ?_
    refine rdy (fun K hK => ?_) AllReadyH.nil
    go_simp
    refine (CL.out _ P3.out.bel).mono ?_
    rintro e v2 ⟨sL, rfl, eL, b⟩
    have P4 := hid (P3.out.keep b)
    have sz2 : sL.size ≤ 21 := by rw [size_of eL]; exact zL.out
    have k1 : ¬9223372036854775807 < 1 + sL.size := by omega
    have k2 : ¬9223372036854775807 < 1 + sL.size + 1 := by omega
    have EL := hid eL
    clear b hH P3 CL eL
    (try go_wp2_with fail)
    refine hK.out _ _ ?_ (fun hH => ?_)
    exact (blk_fif P4.out.box)
    clear hK K
    (try simp only [Act.put, gy0, gy1, gy2])
    refine tk 5 hH ?_
    (try simp only [Act.put, gy0, gy1, gy2])
    refine tk 6 hH ?_
    (try simp only [Act.put, gy0, gy1, gy2])
    refine wpAnyH_ready (rs := [11]) (by kernel_rfl) (by simp) ?_
    refine rdy (fun K hK => ?_) AllReadyH.nil
    go_simp
    refine (CC.out _ P4.out.bel).mono ?_
    rintro e v3 ⟨sC, rfl, eC, b⟩
    have P5 := hid (P4.out.keep b)
    have EC := hid eC
    clear b hH P4 CC eC
    (try go_wp2_with fail)
    refine hK.out _ _ ?_ (fun hH => ?_)
    exact (blk_fif P5.out.box)
    clear hK K
    (try simp only [Act.put, gy0, gy1, gy2])
    refine wpAnyH_ready (rs := [12]) (by kernel_rfl) (by simp) ?_
    refine rdy (fun K hK => ?_) AllReadyH.nil
    go_simp
    have ba := bx_alloc (bx_refl v3) (.cells #[.string (sN), .string (⟨#[105, 110]⟩), .string (⟨#[91]⟩ ++ sL ++ ⟨#[44]⟩), .string (sU ++ ⟨#[93]⟩), .string (⟨#[114, 101, 97, 108]⟩), .string (⟨#[99, 111, 115, 116]⟩), .string (sC)] 9)
    have KN := hid (Blk.new v3 [.string (sN), .string (⟨#[105, 110]⟩), .string (⟨#[91]⟩ ++ sL ++ ⟨#[44]⟩), .string (sU ++ ⟨#[93]⟩), .string (⟨#[114, 101, 97, 108]⟩), .string (⟨#[99, 111, 115, 116]⟩), .string (sC)] 9)
    have P6 := hid (P5.out.keep ba)
    clear ba hH P5
    refine hK.out _ _ ?_ (fun hH => ?_)
    exact (blk_fif P6.out.box)
    clear hK K
    (try simp only [Act.put, gy0, gy1, gy2])
    refine tk 13 hH ?_
    (try simp only [Act.put, gy0, gy1, gy2])
    refine wpAnyH_done (by kernel_rfl) ?_ _
    refine NoPanic.normal ?_
    clear hH
    have JN := hid (Tryz.strings_Join v3.heap.size 0 7 [sN, ⟨#[105, 110]⟩, ⟨#[91]⟩ ++ sL ++ ⟨#[44]⟩, sU ++ ⟨#[93]⟩, ⟨#[114, 101, 97, 108]⟩, ⟨#[99, 111, 115, 116]⟩, sC] ⟨#[32]⟩ (v3.alloc (.cells #[.string (sN), .string (⟨#[105, 110]⟩), .string (⟨#[91]⟩ ++ sL ++ ⟨#[44]⟩), .string (sU ++ ⟨#[93]⟩), .string (⟨#[114, 101, 97, 108]⟩), .string (⟨#[99, 111, 115, 116]⟩), .string (sC)] 9)) (fun j x hj => by
      rw [Nat.zero_add, KN.out.cell]
      have hm := congrArg (Option.map Value.string) hj
      rw [← List.getElem?_map] at hm
      exact hm) KN.out.lt (by simp) (by simp) (by
      have l1 := zN.out
      have l2 := zL.out
      have l3 := zC.out
      have l4 := EU.out
      have l5 := size_of EU.out
      simp only [List.map_cons, List.map_nil, join7, catL, EN.out, EL.out, EC.out, List.length_append, List.length_cons, List.length_nil, Array.length_toList]
      have l6 : sU.data.size = sU.size := rfl
      simp
      omega))
    have HP := hid P6.out.bel
    clear KN P6
    go_wp2_with fail
    refine (JN.out).mono ?_
    rintro e v5 ⟨rfl, b⟩
    have BB := hid (bx_call HP.out b)
    clear JN b HP
    go_wp2_with fail
    go_ret
    refine ⟨_, rfl, ?_, BB.out⟩
    show Lib.join _ _ = _
    unfold varTx upTx kdTx
    simp only [EN.out, EL.out, EC.out, EU.out]
    rfl
  case false.true =>
    go_upto_region 6 with fail
    clear y0 y1 y2 y3 y4
    (try simp only [List.append_eq, List.cons_append, List.nil_append])
    refine wp_region_noPanic ?_
    refine wp_region_held_drew (S := (fun W => W.cell? ⟨w.heap.size, 0, none⟩ = some (.int .i64 lo) ∧ W.cell? ⟨w.heap.size, 1, none⟩ = some (.int .i64 up) ∧ W.cell? ⟨w.heap.size, 2, none⟩ = some (.bool false) ∧ W.cell? ⟨w.heap.size, 3, none⟩ = some (.bool true) ∧ W.cell? ⟨w.heap.size, 4, none⟩ = some (.int .i64 co))) (by kernel_rfl) ?_ (fun hH => ?_)
    exact (blk_fif P1.out.box)
    have bd := bx_drew (bx_refl W1)
    obtain ⟨E0, hW0⟩ : ∃ W, W = W1.drew := ⟨_, rfl⟩
    rw [← hW0] at bd hH ⊢
    clear hW0
    have P2 := hid (P1.out.keep bd)
    clear bd P1
    refine tk 0 hH ?_
    (try simp only [Act.put, gy0, gy1, gy2])
    refine tk 2 hH ?_
    (try simp only [Act.put, gy0, gy1, gy2])
    refine tk 3 hH ?_
    (try simp only [Act.put, gy0, gy1, gy2])
    refine tk 7 hH ?_
    (try simp only [Act.put, gy0, gy1, gy2])
    refine tk 8 hH ?_
    (try simp only [Act.put, gy0, gy1, gy2])
    refine tk 9 hH ?_
    (try simp only [Act.put, gy0, gy1, gy2])
    refine tk 10 hH ?_
    (try simp only [Act.put, gy0, gy1, gy2])
    refine wpAnyH_ready (rs := [1]) (by kernel_rfl) (by simp) ?_
    refine rdy (fun K hK => ?_) AllReadyH.nil
    go_simp
    refine (CN.out _ P2.out.bel).mono ?_
    rintro e v1 ⟨sN, rfl, eN, b⟩
    have P3 := hid (P2.out.keep b)
    have EN := hid eN
    clear b hH P2 CN eN
    (try go_wp2_with fail)
    refine hK.out _ _ ?_ (fun hH => ?_)
    exact (blk_fif P3.out.box)
    clear hK K
    (try simp only [Act.put, gy0, gy1, gy2])
    refine wpAnyH_ready (rs := [4]) (by kernel_rfl) (by simp) ?_
    refine rdy (fun K hK => ?_) AllReadyH.nil
    go_simp
    refine (CL.out _ P3.out.bel).mono ?_
    rintro e v2 ⟨sL, rfl, eL, b⟩
    have P4 := hid (P3.out.keep b)
    have sz2 : sL.size ≤ 21 := by rw [size_of eL]; exact zL.out
    have k1 : ¬9223372036854775807 < 1 + sL.size := by omega
    have k2 : ¬9223372036854775807 < 1 + sL.size + 1 := by omega
    have EL := hid eL
    clear b hH P3 CL eL
    (try go_wp2_with fail)
    refine hK.out _ _ ?_ (fun hH => ?_)
    exact (blk_fif P4.out.box)
    clear hK K
    (try simp only [Act.put, gy0, gy1, gy2])
    refine tk 5 hH ?_
    (try simp only [Act.put, gy0, gy1, gy2])
    refine tk 6 hH ?_
    (try simp only [Act.put, gy0, gy1, gy2])
    refine wpAnyH_ready (rs := [11]) (by kernel_rfl) (by simp) ?_
    refine rdy (fun K hK => ?_) AllReadyH.nil
    go_simp
    refine (CC.out _ P4.out.bel).mono ?_
    rintro e v3 ⟨sC, rfl, eC, b⟩
    have P5 := hid (P4.out.keep b)
    have EC := hid eC
    clear b hH P4 CC eC
    (try go_wp2_with fail)
    refine hK.out _ _ ?_ (fun hH => ?_)
    exact (blk_fif P5.out.box)
    clear hK K
    (try simp only [Act.put, gy0, gy1, gy2])
    refine wpAnyH_ready (rs := [12]) (by kernel_rfl) (by simp) ?_
    refine rdy (fun K hK => ?_) AllReadyH.nil
    go_simp
    have ba := bx_alloc (bx_refl v3) (.cells #[.string (sN), .string (⟨#[105, 110]⟩), .string (⟨#[91]⟩ ++ sL ++ ⟨#[44]⟩), .string (sU ++ ⟨#[93]⟩), .string (⟨#[105, 110, 116, 101, 103, 101, 114]⟩), .string (⟨#[99, 111, 115, 116]⟩), .string (sC)] 9)
    have KN := hid (Blk.new v3 [.string (sN), .string (⟨#[105, 110]⟩), .string (⟨#[91]⟩ ++ sL ++ ⟨#[44]⟩), .string (sU ++ ⟨#[93]⟩), .string (⟨#[105, 110, 116, 101, 103, 101, 114]⟩), .string (⟨#[99, 111, 115, 116]⟩), .string (sC)] 9)
    have P6 := hid (P5.out.keep ba)
    clear ba hH P5
    refine hK.out _ _ ?_ (fun hH => ?_)
    exact (blk_fif P6.out.box)
    clear hK K
    (try simp only [Act.put, gy0, gy1, gy2])
    refine tk 13 hH ?_
    (try simp only [Act.put, gy0, gy1, gy2])
    refine wpAnyH_done (by kernel_rfl) ?_ _
    refine NoPanic.normal ?_
    clear hH
    have JN := hid (Tryz.strings_Join v3.heap.size 0 7 [sN, ⟨#[105, 110]⟩, ⟨#[91]⟩ ++ sL ++ ⟨#[44]⟩, sU ++ ⟨#[93]⟩, ⟨#[105, 110, 116, 101, 103, 101, 114]⟩, ⟨#[99, 111, 115, 116]⟩, sC] ⟨#[32]⟩ (v3.alloc (.cells #[.string (sN), .string (⟨#[105, 110]⟩), .string (⟨#[91]⟩ ++ sL ++ ⟨#[44]⟩), .string (sU ++ ⟨#[93]⟩), .string (⟨#[105, 110, 116, 101, 103, 101, 114]⟩), .string (⟨#[99, 111, 115, 116]⟩), .string (sC)] 9)) (fun j x hj => by
      rw [Nat.zero_add, KN.out.cell]
      have hm := congrArg (Option.map Value.string) hj
      rw [← List.getElem?_map] at hm
      exact hm) KN.out.lt (by simp) (by simp) (by
      have l1 := zN.out
      have l2 := zL.out
      have l3 := zC.out
      have l4 := EU.out
      have l5 := size_of EU.out
      simp only [List.map_cons, List.map_nil, join7, catL, EN.out, EL.out, EC.out, List.length_append, List.length_cons, List.length_nil, Array.length_toList]
      have l6 : sU.data.size = sU.size := rfl
      simp
      omega))
    have HP := hid P6.out.bel
    clear KN P6
    go_wp2_with fail
    refine (JN.out).mono ?_
    rintro e v5 ⟨rfl, b⟩
    have BB := hid (bx_call HP.out b)
    clear JN b HP
    go_wp2_with fail
    go_ret
    refine ⟨_, rfl, ?_, BB.out⟩
    show Lib.join _ _ = _
    unfold varTx upTx kdTx
    simp only [EN.out, EL.out, EC.out, EU.out]
    rfl
  case true.false =>
    go_upto_region 6 with fail
    clear y0 y1 y2 y3 y4
    (try simp only [List.append_eq, List.cons_append, List.nil_append])
    refine wp_region_noPanic ?_
    refine wp_region_held_drew (S := (fun W => W.cell? ⟨w.heap.size, 0, none⟩ = some (.int .i64 lo) ∧ W.cell? ⟨w.heap.size, 1, none⟩ = some (.int .i64 up) ∧ W.cell? ⟨w.heap.size, 2, none⟩ = some (.bool true) ∧ W.cell? ⟨w.heap.size, 3, none⟩ = some (.bool false) ∧ W.cell? ⟨w.heap.size, 4, none⟩ = some (.int .i64 co))) (by kernel_rfl) ?_ (fun hH => ?_)
    exact (blk_fif P1.out.box)
    have bd := bx_drew (bx_refl W1)
    obtain ⟨E0, hW0⟩ : ∃ W, W = W1.drew := ⟨_, rfl⟩
    rw [← hW0] at bd hH ⊢
    clear hW0
    have P2 := hid (P1.out.keep bd)
    clear bd P1
    refine tk 0 hH ?_
    (try simp only [Act.put, gy0, gy1, gy2])
    refine tk 2 hH ?_
    (try simp only [Act.put, gy0, gy1, gy2])
    refine tk 3 hH ?_
    (try simp only [Act.put, gy0, gy1, gy2])
    refine tk 7 hH ?_
    (try simp only [Act.put, gy0, gy1, gy2])
    refine tk 8 hH ?_
    (try simp only [Act.put, gy0, gy1, gy2])
    refine tk 9 hH ?_
    (try simp only [Act.put, gy0, gy1, gy2])
    refine tk 10 hH ?_
    (try simp only [Act.put, gy0, gy1, gy2])
    refine wpAnyH_ready (rs := [1]) (by kernel_rfl) (by simp) ?_
    refine rdy (fun K hK => ?_) AllReadyH.nil
    go_simp
    refine (CN.out _ P2.out.bel).mono ?_
    rintro e v1 ⟨sN, rfl, eN, b⟩
    have P3 := hid (P2.out.keep b)
    have EN := hid eN
    clear b hH P2 CN eN
    (try go_wp2_with fail)
    refine hK.out _ _ ?_ (fun hH => ?_)
    exact (blk_fif P3.out.box)
    clear hK K
    (try simp only [Act.put, gy0, gy1, gy2])
    refine wpAnyH_ready (rs := [4]) (by kernel_rfl) (by simp) ?_
    refine rdy (fun K hK => ?_) AllReadyH.nil
    go_simp
    refine (CL.out _ P3.out.bel).mono ?_
    rintro e v2 ⟨sL, rfl, eL, b⟩
    have P4 := hid (P3.out.keep b)
    have sz2 : sL.size ≤ 21 := by rw [size_of eL]; exact zL.out
    have k1 : ¬9223372036854775807 < 1 + sL.size := by omega
    have k2 : ¬9223372036854775807 < 1 + sL.size + 1 := by omega
    have EL := hid eL
    clear b hH P3 CL eL
    (try go_wp2_with fail)
    refine hK.out _ _ ?_ (fun hH => ?_)
    exact (blk_fif P4.out.box)
    clear hK K
    (try simp only [Act.put, gy0, gy1, gy2])
    refine tk 5 hH ?_
    (try simp only [Act.put, gy0, gy1, gy2])
    refine tk 6 hH ?_
    (try simp only [Act.put, gy0, gy1, gy2])
    refine wpAnyH_ready (rs := [11]) (by kernel_rfl) (by simp) ?_
    refine rdy (fun K hK => ?_) AllReadyH.nil
    go_simp
    refine (CC.out _ P4.out.bel).mono ?_
    rintro e v3 ⟨sC, rfl, eC, b⟩
    have P5 := hid (P4.out.keep b)
    have EC := hid eC
    clear b hH P4 CC eC
    (try go_wp2_with fail)
    refine hK.out _ _ ?_ (fun hH => ?_)
    exact (blk_fif P5.out.box)
    clear hK K
    (try simp only [Act.put, gy0, gy1, gy2])
    refine wpAnyH_ready (rs := [12]) (by kernel_rfl) (by simp) ?_
    refine rdy (fun K hK => ?_) AllReadyH.nil
    go_simp
    have ba := bx_alloc (bx_refl v3) (.cells #[.string (sN), .string (⟨#[105, 110]⟩), .string (⟨#[91]⟩ ++ sL ++ ⟨#[44]⟩), .string (⟨#[111, 112, 101, 110, 41]⟩), .string (⟨#[114, 101, 97, 108]⟩), .string (⟨#[99, 111, 115, 116]⟩), .string (sC)] 9)
    have KN := hid (Blk.new v3 [.string (sN), .string (⟨#[105, 110]⟩), .string (⟨#[91]⟩ ++ sL ++ ⟨#[44]⟩), .string (⟨#[111, 112, 101, 110, 41]⟩), .string (⟨#[114, 101, 97, 108]⟩), .string (⟨#[99, 111, 115, 116]⟩), .string (sC)] 9)
    have P6 := hid (P5.out.keep ba)
    clear ba hH P5
    refine hK.out _ _ ?_ (fun hH => ?_)
    exact (blk_fif P6.out.box)
    clear hK K
    (try simp only [Act.put, gy0, gy1, gy2])
    refine tk 13 hH ?_
    (try simp only [Act.put, gy0, gy1, gy2])
    refine wpAnyH_done (by kernel_rfl) ?_ _
    refine NoPanic.normal ?_
    clear hH
    have JN := hid (Tryz.strings_Join v3.heap.size 0 7 [sN, ⟨#[105, 110]⟩, ⟨#[91]⟩ ++ sL ++ ⟨#[44]⟩, ⟨#[111, 112, 101, 110, 41]⟩, ⟨#[114, 101, 97, 108]⟩, ⟨#[99, 111, 115, 116]⟩, sC] ⟨#[32]⟩ (v3.alloc (.cells #[.string (sN), .string (⟨#[105, 110]⟩), .string (⟨#[91]⟩ ++ sL ++ ⟨#[44]⟩), .string (⟨#[111, 112, 101, 110, 41]⟩), .string (⟨#[114, 101, 97, 108]⟩), .string (⟨#[99, 111, 115, 116]⟩), .string (sC)] 9)) (fun j x hj => by
      rw [Nat.zero_add, KN.out.cell]
      have hm := congrArg (Option.map Value.string) hj
      rw [← List.getElem?_map] at hm
      exact hm) KN.out.lt (by simp) (by simp) (by
      have l1 := zN.out
      have l2 := zL.out
      have l3 := zC.out
      have l4 := EU.out
      have l5 := size_of EU.out
      simp only [List.map_cons, List.map_nil, join7, catL, EN.out, EL.out, EC.out, List.length_append, List.length_cons, List.length_nil]
      have l6 : sU.data.size = sU.size := rfl
      simp
      omega))
    have HP := hid P6.out.bel
    clear KN P6
    go_wp2_with fail
    refine (JN.out).mono ?_
    rintro e v5 ⟨rfl, b⟩
    have BB := hid (bx_call HP.out b)
    clear JN b HP
    go_wp2_with fail
    go_ret
    refine ⟨_, rfl, ?_, BB.out⟩
    show Lib.join _ _ = _
    unfold varTx upTx kdTx
    simp only [EN.out, EL.out, EC.out]
    rfl
  case true.true =>
    go_upto_region 6 with fail
    clear y0 y1 y2 y3 y4
    (try simp only [List.append_eq, List.cons_append, List.nil_append])
    refine wp_region_noPanic ?_
    refine wp_region_held_drew (S := (fun W => W.cell? ⟨w.heap.size, 0, none⟩ = some (.int .i64 lo) ∧ W.cell? ⟨w.heap.size, 1, none⟩ = some (.int .i64 up) ∧ W.cell? ⟨w.heap.size, 2, none⟩ = some (.bool true) ∧ W.cell? ⟨w.heap.size, 3, none⟩ = some (.bool true) ∧ W.cell? ⟨w.heap.size, 4, none⟩ = some (.int .i64 co))) (by kernel_rfl) ?_ (fun hH => ?_)
    exact (blk_fif P1.out.box)
    have bd := bx_drew (bx_refl W1)
    obtain ⟨E0, hW0⟩ : ∃ W, W = W1.drew := ⟨_, rfl⟩
    rw [← hW0] at bd hH ⊢
    clear hW0
    have P2 := hid (P1.out.keep bd)
    clear bd P1
    refine tk 0 hH ?_
    (try simp only [Act.put, gy0, gy1, gy2])
    refine tk 2 hH ?_
    (try simp only [Act.put, gy0, gy1, gy2])
    refine tk 3 hH ?_
    (try simp only [Act.put, gy0, gy1, gy2])
    refine tk 7 hH ?_
    (try simp only [Act.put, gy0, gy1, gy2])
    refine tk 8 hH ?_
    (try simp only [Act.put, gy0, gy1, gy2])
    refine tk 9 hH ?_
    (try simp only [Act.put, gy0, gy1, gy2])
    refine tk 10 hH ?_
    (try simp only [Act.put, gy0, gy1, gy2])
    refine wpAnyH_ready (rs := [1]) (by kernel_rfl) (by simp) ?_
    refine rdy (fun K hK => ?_) AllReadyH.nil
    go_simp
    refine (CN.out _ P2.out.bel).mono ?_
    rintro e v1 ⟨sN, rfl, eN, b⟩
    have P3 := hid (P2.out.keep b)
    have EN := hid eN
    clear b hH P2 CN eN
    (try go_wp2_with fail)
    refine hK.out _ _ ?_ (fun hH => ?_)
    exact (blk_fif P3.out.box)
    clear hK K
    (try simp only [Act.put, gy0, gy1, gy2])
    refine wpAnyH_ready (rs := [4]) (by kernel_rfl) (by simp) ?_
    refine rdy (fun K hK => ?_) AllReadyH.nil
    go_simp
    refine (CL.out _ P3.out.bel).mono ?_
    rintro e v2 ⟨sL, rfl, eL, b⟩
    have P4 := hid (P3.out.keep b)
    have sz2 : sL.size ≤ 21 := by rw [size_of eL]; exact zL.out
    have k1 : ¬9223372036854775807 < 1 + sL.size := by omega
    have k2 : ¬9223372036854775807 < 1 + sL.size + 1 := by omega
    have EL := hid eL
    clear b hH P3 CL eL
    (try go_wp2_with fail)
    refine hK.out _ _ ?_ (fun hH => ?_)
    exact (blk_fif P4.out.box)
    clear hK K
    (try simp only [Act.put, gy0, gy1, gy2])
    refine tk 5 hH ?_
    (try simp only [Act.put, gy0, gy1, gy2])
    refine tk 6 hH ?_
    (try simp only [Act.put, gy0, gy1, gy2])
    refine wpAnyH_ready (rs := [11]) (by kernel_rfl) (by simp) ?_
    refine rdy (fun K hK => ?_) AllReadyH.nil
    go_simp
    refine (CC.out _ P4.out.bel).mono ?_
    rintro e v3 ⟨sC, rfl, eC, b⟩
    have P5 := hid (P4.out.keep b)
    have EC := hid eC
    clear b hH P4 CC eC
    (try go_wp2_with fail)
    refine hK.out _ _ ?_ (fun hH => ?_)
    exact (blk_fif P5.out.box)
    clear hK K
    (try simp only [Act.put, gy0, gy1, gy2])
    refine wpAnyH_ready (rs := [12]) (by kernel_rfl) (by simp) ?_
    refine rdy (fun K hK => ?_) AllReadyH.nil
    go_simp
    have ba := bx_alloc (bx_refl v3) (.cells #[.string (sN), .string (⟨#[105, 110]⟩), .string (⟨#[91]⟩ ++ sL ++ ⟨#[44]⟩), .string (⟨#[111, 112, 101, 110, 41]⟩), .string (⟨#[105, 110, 116, 101, 103, 101, 114]⟩), .string (⟨#[99, 111, 115, 116]⟩), .string (sC)] 9)
    have KN := hid (Blk.new v3 [.string (sN), .string (⟨#[105, 110]⟩), .string (⟨#[91]⟩ ++ sL ++ ⟨#[44]⟩), .string (⟨#[111, 112, 101, 110, 41]⟩), .string (⟨#[105, 110, 116, 101, 103, 101, 114]⟩), .string (⟨#[99, 111, 115, 116]⟩), .string (sC)] 9)
    have P6 := hid (P5.out.keep ba)
    clear ba hH P5
    refine hK.out _ _ ?_ (fun hH => ?_)
    exact (blk_fif P6.out.box)
    clear hK K
    (try simp only [Act.put, gy0, gy1, gy2])
    refine tk 13 hH ?_
    (try simp only [Act.put, gy0, gy1, gy2])
    refine wpAnyH_done (by kernel_rfl) ?_ _
    refine NoPanic.normal ?_
    clear hH
    have JN := hid (Tryz.strings_Join v3.heap.size 0 7 [sN, ⟨#[105, 110]⟩, ⟨#[91]⟩ ++ sL ++ ⟨#[44]⟩, ⟨#[111, 112, 101, 110, 41]⟩, ⟨#[105, 110, 116, 101, 103, 101, 114]⟩, ⟨#[99, 111, 115, 116]⟩, sC] ⟨#[32]⟩ (v3.alloc (.cells #[.string (sN), .string (⟨#[105, 110]⟩), .string (⟨#[91]⟩ ++ sL ++ ⟨#[44]⟩), .string (⟨#[111, 112, 101, 110, 41]⟩), .string (⟨#[105, 110, 116, 101, 103, 101, 114]⟩), .string (⟨#[99, 111, 115, 116]⟩), .string (sC)] 9)) (fun j x hj => by
      rw [Nat.zero_add, KN.out.cell]
      have hm := congrArg (Option.map Value.string) hj
      rw [← List.getElem?_map] at hm
      exact hm) KN.out.lt (by simp) (by simp) (by
      have l1 := zN.out
      have l2 := zL.out
      have l3 := zC.out
      have l4 := EU.out
      have l5 := size_of EU.out
      simp only [List.map_cons, List.map_nil, join7, catL, EN.out, EL.out, EC.out, List.length_append, List.length_cons, List.length_nil]
      have l6 : sU.data.size = sU.size := rfl
      simp
      omega))
    have HP := hid P6.out.bel
    clear KN P6
    go_wp2_with fail
    refine (JN.out).mono ?_
    rintro e v5 ⟨rfl, b⟩
    have BB := hid (bx_call HP.out b)
    clear JN b HP
    go_wp2_with fail
    go_ret
    refine ⟨_, rfl, ?_, BB.out⟩
    show Lib.join _ _ = _
    unfold varTx upTx kdTx
    simp only [EN.out, EL.out, EC.out]
    rfl

end Go.Proofs.YthbogaindaflpaaGreatDoor
