/- Fmz: Fma, Fmb, Fmc, Fmd, Fme, Fmf in one text. -/
import Derived.Test.YtdbccidlnhjfhaaGreatDoorTxt
import Derived.Test.YtdbccidlnhjfhaaGreatDoorExt
import Derived.Test.YtdbccidlnhjfhaaGreatDoorShf
import Derived.Lib.AppendIntMem
import Derived.Lib.ItoaLen
import Derived.Deep.DeepCutAuto
import Derived.BigQuiet
import Derived.Test.YtdbccidlnhjfhaaGreatDoorLinA
import Derived.Test.YtdbccidlnhjfhaaGreatDoorLinC
import Derived.OwnWalk
import Derived.MapKept
import Derived.RangeFuncRecord

namespace Go.Proofs.YtdbccidlnhjfhaaGreatDoor
open Go.RowKit
def Tab (w : World) : Prop := Lib.TabIs Tryz.prog w "internal/strconv.uint64pow10" .u64 Lib.pow10Tab
theorem Tab.keep {w w' : World} (h : Tab w) (b : Below w.heap.size w w') : Tab w' := by
  unfold Tab Lib.TabIs World.var? at h ⊢
  rcases hg : Tryz.prog.globalNamed "internal/strconv.uint64pow10" with _ | g
  · rw [hg] at h
    cases h
  · rw [hg] at h
    simp only [Option.bind_some] at h ⊢
    have hlt : g < w.heap.size := by
      rcases Nat.lt_or_ge g w.heap.size with h' | h'
      · exact h'
      · rw [Array.getElem?_eq_none h'] at h
        cases h
    rw [b.block g hlt]
    exact h
theorem blk_fif {w : World} {b t : Nat} {x y z u s : Value} (h : Blk w b [x, y, z, u, s] t) : w.cell? ⟨b, 0, none⟩ = some x ∧ w.cell? ⟨b, 1, none⟩ = some y ∧ w.cell? ⟨b, 2, none⟩ = some z ∧ w.cell? ⟨b, 3, none⟩ = some u ∧ w.cell? ⟨b, 4, none⟩ = some s := ⟨Blk.cell h 0, Blk.cell h 1, Blk.cell h 2, Blk.cell h 3, Blk.cell h 4⟩
def RetTx (w : World) (l : List UInt8) (e : Ending) (w' : World) : Prop := ∃ s : ByteArray, e = .returned (.string s) ∧ s.data.toList = l ∧ Below w.heap.size w w'
theorem f_decimal (n : Int) (w : World) (h0 : -9223372036854775808 ≤ n) (h1 : n ≤ 9223372036854775807) (ht : Tab w) : Calls Tryz.prog 100 #[.int .i64 n] w (RetTx w (Lib.itoa n)) := by
  have C := hid (Tryz.strconv_FormatInt_10 n h0 h1 w ht)
  clear ht h0 h1
  go_enter Tryz.func100, Tryz.ntmps100
  go_wp2_with fail
  refine (C.out).mono ?_
  rintro e w' ⟨rfl, k, os, rfl⟩
  have B := hid (Lib.below_grow w.heap.size w (Nat.le_refl _) k os)
  clear C
  obtain ⟨W, hW⟩ : ∃ W, W = Sort.grow (w.drewN k) os := ⟨_, rfl⟩
  rw [← hW] at B ⊢
  clear hW
  go_wp2_with fail
  go_ret
  exact ⟨_, rfl, rfl, B.out⟩
theorem f_name (n : Int) (w : World) (h0 : -9223372036854775808 ≤ n) (h1 : n ≤ 9223372036854775807) (ht : Tab w) : Calls Tryz.prog 101 #[.int .i64 n] w (RetTx w (120 :: Lib.itoa n)) := by
  have hl := Lib.itoa_length_le n h0 h1
  have C := hid (Tryz.strconv_Itoa n h0 h1 w ht)
  obtain ⟨s, hs⟩ : ∃ s : ByteArray, s = ⟨(Lib.itoa n).toArray⟩ := ⟨_, rfl⟩
  have hz : s.size ≤ 21 := by
    rw [hs]
    show (Lib.itoa n).toArray.size ≤ 21
    simpa using hl
  have HS := hid (show s.data.toList = Lib.itoa n by rw [hs])
  rw [← hs] at C
  clear ht h0 h1 hl hs
  go_enter Tryz.func101, Tryz.ntmps101
  go_wp2_with fail
  refine (C.out).mono ?_
  rintro e w' ⟨rfl, k, os, rfl⟩
  have B := hid (Lib.below_grow w.heap.size w (Nat.le_refl _) k os)
  clear C
  obtain ⟨W, hW⟩ : ∃ W, W = Sort.grow (w.drewN k) os := ⟨_, rfl⟩
  rw [← hW] at B ⊢
  clear hW
  go_wp2_with fail
  go_ret
  exact ⟨_, rfl, by rw [← HS.out]; rfl, B.out⟩
end Go.Proofs.YtdbccidlnhjfhaaGreatDoor

namespace Go.Proofs.YtdbccidlnhjfhaaGreatDoor
open Go.RowKit
set_option maxRecDepth 100000
def upTx (op : Bool) (up : Int) : List UInt8 := if op = true then [111, 112, 101, 110, 41] else Lib.itoa up ++ [93]
def kdTx (it : Bool) : List UInt8 := if it = true then [105, 110, 116, 101, 103, 101, 114] else [114, 101, 97, 108]
def varTx (i : Int) (lo up : Int) (op it : Bool) (co : Int) : List UInt8 := Lib.join [120 :: Lib.itoa i, [105, 110], 91 :: (Lib.itoa lo ++ [44]), upTx op up, kdTx it, [99, 111, 115, 116], Lib.itoa co] [32]
structure Kv (w : World) (cs : List Value) (W : World) : Prop where
  bel : Below w.heap.size w W
  box : Blk W w.heap.size cs 60
theorem Kv.keep {w W W' : World} {cs : List Value} (h : Kv w cs W) (b : Below W.heap.size W W') : Kv w cs W' := ⟨bx_call h.bel b, h.box.keep b⟩
theorem size_of {s : ByteArray} {l : List UInt8} (h : s.data.toList = l) : s.size = l.length := by
  rw [← h]
  show s.data.size = _
  rw [Array.length_toList]
theorem catL (a b : ByteArray) : (a ++ b).data.toList = a.data.toList ++ b.data.toList := by simp
theorem join7 (a b c d e f g s : List UInt8) : Lib.join [a, b, c, d, e, f, g] s = a ++ (s ++ (b ++ (s ++ (c ++ (s ++ (d ++ (s ++ (e ++ (s ++ (f ++ (s ++ g))))))))))) := by
  unfold Lib.join
  simp [List.intercalate]
set_option maxHeartbeats 8000000 in
theorem f_var (i lo up : Int) (op it : Bool) (co : Int) (w : World) (h0 : -9223372036854775808 ≤ i ∧ i ≤ 9223372036854775807) (h1 : -9223372036854775808 ≤ lo ∧ lo ≤ 9223372036854775807) (h2 : -9223372036854775808 ≤ up ∧ up ≤ 9223372036854775807) (h3 : -9223372036854775808 ≤ co ∧ co ≤ 9223372036854775807) (ht : Tab w) :
    Calls Tryz.prog 59 #[.int .i64 i, .agg #[.int .i64 lo, .int .i64 up, .bool op, .bool it, .int .i64 co]] w (RetTx w (varTx i lo up op it co)) := by
  have CU := hid (fun (W : World) (b : Below w.heap.size w W) => f_decimal up W h2.1 h2.2 (ht.keep b))
  have CL := hid (fun (W : World) (b : Below w.heap.size w W) => f_decimal lo W h1.1 h1.2 (ht.keep b))
  have CC := hid (fun (W : World) (b : Below w.heap.size w W) => f_decimal co W h3.1 h3.2 (ht.keep b))
  have CN := hid (fun (W : World) (b : Below w.heap.size w W) => f_name i W h0.1 h0.2 (ht.keep b))
  have zU := hid (Lib.itoa_length_le up h2.1 h2.2)
  have zL := hid (Lib.itoa_length_le lo h1.1 h1.2)
  have zC := hid (Lib.itoa_length_le co h3.1 h3.2)
  have zN := hid (Lib.itoa_length_le i h0.1 h0.2)
  obtain ⟨W0, hW⟩ : ∃ W, W = w.alloc (.cells #[.int .i64 lo, .int .i64 up, .bool op, .bool it, .int .i64 co] 60) := ⟨_, rfl⟩
  have B0 := bx_alloc (bx_refl w) (.cells #[.int .i64 lo, .int .i64 up, .bool op, .bool it, .int .i64 co] 60)
  have K0 := Blk.new w [.int .i64 lo, .int .i64 up, .bool op, .bool it, .int .i64 co] 60
  change Blk (w.alloc (.cells #[.int .i64 lo, .int .i64 up, .bool op, .bool it, .int .i64 co] 60)) _ _ _ at K0
  rw [← hW] at B0 K0
  have P0 := hid (show Kv w [.int .i64 lo, .int .i64 up, .bool op, .bool it, .int .i64 co] W0 from ⟨B0, K0⟩)
  clear B0 K0 h0 h1 h2 h3 ht
  go_enter Tryz.func59, Tryz.ntmps59
  go_upto_region 1 with fail
  rw [← hW]
  clear hW
  obtain ⟨y0, y1, y2, y3, y4⟩ := blk_fif P0.out.box
  go_wp2_with fail
  refine (CU.out _ P0.out.bel).mono ?_
  rintro e W1 ⟨sU, rfl, eU, b⟩
  have P1 := hid (P0.out.keep b)
  have sz1 : sU.size ≤ 21 := by rw [size_of eU]; exact zU.out
  have EU := hid eU
  clear P0 CU b eU y0 y1 y2 y3 y4 zU
  obtain ⟨y0, y1, y2, y3, y4⟩ := blk_fif P1.out.box
  cases op <;> cases it
  case false.false =>
    go_upto_region 6 with fail
    clear y0 y1 y2 y3 y4
    (try simp only [List.append_eq, List.cons_append, List.nil_append])
    refine wp_region_noPanic ?_
    refine wp_region_held_drew (S := (fun W => W.cell? ⟨w.heap.size, 0, none⟩ = some (.int .i64 lo) ∧ W.cell? ⟨w.heap.size, 1, none⟩ = some (.int .i64 up) ∧ W.cell? ⟨w.heap.size, 2, none⟩ = some (.bool false) ∧ W.cell? ⟨w.heap.size, 3, none⟩ = some (.bool false) ∧ W.cell? ⟨w.heap.size, 4, none⟩ = some (.int .i64 co))) (by kernel_rfl) ?_ (fun hH => ?_)
    exact (blk_fif P1.out.box)
    have bd := bx_drew (bx_refl W1)
    obtain ⟨E0, hW0⟩ : ∃ W, W = W1.drew := ⟨_, rfl⟩
    rw [← hW0] at bd hH ⊢
    clear hW0
    have P2 := hid (P1.out.keep bd)
    clear bd P1
    refine tk 0 hH ?_
    (try simp only [Act.put, gy0, gy1, gy2])
    refine tk 2 hH ?_
    (try simp only [Act.put, gy0, gy1, gy2])
    refine tk 3 hH ?_
    (try simp only [Act.put, gy0, gy1, gy2])
    refine tk 7 hH ?_
    (try simp only [Act.put, gy0, gy1, gy2])
    refine tk 8 hH ?_
    (try simp only [Act.put, gy0, gy1, gy2])
    refine tk 9 hH ?_
    (try simp only [Act.put, gy0, gy1, gy2])
    refine tk 10 hH ?_
    (try simp only [Act.put, gy0, gy1, gy2])
    refine wpAnyH_ready (rs := [1]) (by kernel_rfl) (by simp) ?_
    refine rdy (fun K hK => ?_) AllReadyH.nil
    go_simp
    refine (CN.out _ P2.out.bel).mono ?_
    rintro e v1 ⟨sN, rfl, eN, b⟩
    have P3 := hid (P2.out.keep b)
    have EN := hid eN
    clear b hH P2 CN eN
    (try go_wp2_with fail)
    refine hK.out _ _ ?_ (fun hH => ?_)
    exact (blk_fif P3.out.box)
    clear hK K
    (try simp only [Act.put, gy0, gy1, gy2])
    refine wpAnyH_ready (rs := [4]) (by kernel_rfl) (by simp) ?_
    refine rdy (fun K hK => ?_) AllReadyH.nil
    go_simp
    refine (CL.out _ P3.out.bel).mono ?_
    rintro e v2 ⟨sL, rfl, eL, b⟩
    have P4 := hid (P3.out.keep b)
    have sz2 : sL.size ≤ 21 := by rw [size_of eL]; exact zL.out
    have k1 : ¬9223372036854775807 < 1 + sL.size := by omega
    have k2 : ¬9223372036854775807 < 1 + sL.size + 1 := by omega
    have EL := hid eL
    clear b hH P3 CL eL
    (try go_wp2_with fail)
    refine hK.out _ _ ?_ (fun hH => ?_)
    exact (blk_fif P4.out.box)
    clear hK K
    (try simp only [Act.put, gy0, gy1, gy2])
    refine tk 5 hH ?_
    (try simp only [Act.put, gy0, gy1, gy2])
    refine tk 6 hH ?_
    (try simp only [Act.put, gy0, gy1, gy2])
    refine wpAnyH_ready (rs := [11]) (by kernel_rfl) (by simp) ?_
    refine rdy (fun K hK => ?_) AllReadyH.nil
    go_simp
    refine (CC.out _ P4.out.bel).mono ?_
    rintro e v3 ⟨sC, rfl, eC, b⟩
    have P5 := hid (P4.out.keep b)
    have EC := hid eC
    clear b hH P4 CC eC
    (try go_wp2_with fail)
    refine hK.out _ _ ?_ (fun hH => ?_)
    exact (blk_fif P5.out.box)
    clear hK K
    (try simp only [Act.put, gy0, gy1, gy2])
    refine wpAnyH_ready (rs := [12]) (by kernel_rfl) (by simp) ?_
    refine rdy (fun K hK => ?_) AllReadyH.nil
    go_simp
    have ba := bx_alloc (bx_refl v3) (.cells #[.string (sN), .string (⟨#[105, 110]⟩), .string (⟨#[91]⟩ ++ sL ++ ⟨#[44]⟩), .string (sU ++ ⟨#[93]⟩), .string (⟨#[114, 101, 97, 108]⟩), .string (⟨#[99, 111, 115, 116]⟩), .string (sC)] 9)
    have KN := hid (Blk.new v3 [.string (sN), .string (⟨#[105, 110]⟩), .string (⟨#[91]⟩ ++ sL ++ ⟨#[44]⟩), .string (sU ++ ⟨#[93]⟩), .string (⟨#[114, 101, 97, 108]⟩), .string (⟨#[99, 111, 115, 116]⟩), .string (sC)] 9)
    have P6 := hid (P5.out.keep ba)
    clear ba hH P5
    refine hK.out _ _ ?_ (fun hH => ?_)
    exact (blk_fif P6.out.box)
    clear hK K
    (try simp only [Act.put, gy0, gy1, gy2])
    refine tk 13 hH ?_
    (try simp only [Act.put, gy0, gy1, gy2])
    refine wpAnyH_done (by kernel_rfl) ?_ _
    refine NoPanic.normal ?_
    clear hH
    have JN := hid (Tryz.strings_Join v3.heap.size 0 7 [sN, ⟨#[105, 110]⟩, ⟨#[91]⟩ ++ sL ++ ⟨#[44]⟩, sU ++ ⟨#[93]⟩, ⟨#[114, 101, 97, 108]⟩, ⟨#[99, 111, 115, 116]⟩, sC] ⟨#[32]⟩ (v3.alloc (.cells #[.string (sN), .string (⟨#[105, 110]⟩), .string (⟨#[91]⟩ ++ sL ++ ⟨#[44]⟩), .string (sU ++ ⟨#[93]⟩), .string (⟨#[114, 101, 97, 108]⟩), .string (⟨#[99, 111, 115, 116]⟩), .string (sC)] 9)) (fun j x hj => by
      rw [Nat.zero_add, KN.out.cell]
      have hm := congrArg (Option.map Value.string) hj
      rw [← List.getElem?_map] at hm
      exact hm) KN.out.lt (by simp) (by simp) (by
      have l1 := zN.out
      have l2 := zL.out
      have l3 := zC.out
      have l4 := EU.out
      have l5 := size_of EU.out
      simp only [List.map_cons, List.map_nil, join7, catL, EN.out, EL.out, EC.out, List.length_append, List.length_cons, List.length_nil, Array.length_toList]
      have l6 : sU.data.size = sU.size := rfl
      simp
      omega))
    have HP := hid P6.out.bel
    clear KN P6
    go_wp2_with fail
    refine (JN.out).mono ?_
    rintro e v5 ⟨rfl, b⟩
    have BB := hid (bx_call HP.out b)
    clear JN b HP
    go_wp2_with fail
    go_ret
    refine ⟨_, rfl, ?_, BB.out⟩
    show Lib.join _ _ = _
    unfold varTx upTx kdTx
    simp only [EN.out, EL.out, EC.out, EU.out]
    rfl
  case false.true =>
    go_upto_region 6 with fail
    clear y0 y1 y2 y3 y4
    (try simp only [List.append_eq, List.cons_append, List.nil_append])
    refine wp_region_noPanic ?_
    refine wp_region_held_drew (S := (fun W => W.cell? ⟨w.heap.size, 0, none⟩ = some (.int .i64 lo) ∧ W.cell? ⟨w.heap.size, 1, none⟩ = some (.int .i64 up) ∧ W.cell? ⟨w.heap.size, 2, none⟩ = some (.bool false) ∧ W.cell? ⟨w.heap.size, 3, none⟩ = some (.bool true) ∧ W.cell? ⟨w.heap.size, 4, none⟩ = some (.int .i64 co))) (by kernel_rfl) ?_ (fun hH => ?_)
    exact (blk_fif P1.out.box)
    have bd := bx_drew (bx_refl W1)
    obtain ⟨E0, hW0⟩ : ∃ W, W = W1.drew := ⟨_, rfl⟩
    rw [← hW0] at bd hH ⊢
    clear hW0
    have P2 := hid (P1.out.keep bd)
    clear bd P1
    refine tk 0 hH ?_
    (try simp only [Act.put, gy0, gy1, gy2])
    refine tk 2 hH ?_
    (try simp only [Act.put, gy0, gy1, gy2])
    refine tk 3 hH ?_
    (try simp only [Act.put, gy0, gy1, gy2])
    refine tk 7 hH ?_
    (try simp only [Act.put, gy0, gy1, gy2])
    refine tk 8 hH ?_
    (try simp only [Act.put, gy0, gy1, gy2])
    refine tk 9 hH ?_
    (try simp only [Act.put, gy0, gy1, gy2])
    refine tk 10 hH ?_
    (try simp only [Act.put, gy0, gy1, gy2])
    refine wpAnyH_ready (rs := [1]) (by kernel_rfl) (by simp) ?_
    refine rdy (fun K hK => ?_) AllReadyH.nil
    go_simp
    refine (CN.out _ P2.out.bel).mono ?_
    rintro e v1 ⟨sN, rfl, eN, b⟩
    have P3 := hid (P2.out.keep b)
    have EN := hid eN
    clear b hH P2 CN eN
    (try go_wp2_with fail)
    refine hK.out _ _ ?_ (fun hH => ?_)
    exact (blk_fif P3.out.box)
    clear hK K
    (try simp only [Act.put, gy0, gy1, gy2])
    refine wpAnyH_ready (rs := [4]) (by kernel_rfl) (by simp) ?_
    refine rdy (fun K hK => ?_) AllReadyH.nil
    go_simp
    refine (CL.out _ P3.out.bel).mono ?_
    rintro e v2 ⟨sL, rfl, eL, b⟩
    have P4 := hid (P3.out.keep b)
    have sz2 : sL.size ≤ 21 := by rw [size_of eL]; exact zL.out
    have k1 : ¬9223372036854775807 < 1 + sL.size := by omega
    have k2 : ¬9223372036854775807 < 1 + sL.size + 1 := by omega
    have EL := hid eL
    clear b hH P3 CL eL
    (try go_wp2_with fail)
    refine hK.out _ _ ?_ (fun hH => ?_)
    exact (blk_fif P4.out.box)
    clear hK K
    (try simp only [Act.put, gy0, gy1, gy2])
    refine tk 5 hH ?_
    (try simp only [Act.put, gy0, gy1, gy2])
    refine tk 6 hH ?_
    (try simp only [Act.put, gy0, gy1, gy2])
    refine wpAnyH_ready (rs := [11]) (by kernel_rfl) (by simp) ?_
    refine rdy (fun K hK => ?_) AllReadyH.nil
    go_simp
    refine (CC.out _ P4.out.bel).mono ?_
    rintro e v3 ⟨sC, rfl, eC, b⟩
    have P5 := hid (P4.out.keep b)
    have EC := hid eC
    clear b hH P4 CC eC
    (try go_wp2_with fail)
    refine hK.out _ _ ?_ (fun hH => ?_)
    exact (blk_fif P5.out.box)
    clear hK K
    (try simp only [Act.put, gy0, gy1, gy2])
    refine wpAnyH_ready (rs := [12]) (by kernel_rfl) (by simp) ?_
    refine rdy (fun K hK => ?_) AllReadyH.nil
    go_simp
    have ba := bx_alloc (bx_refl v3) (.cells #[.string (sN), .string (⟨#[105, 110]⟩), .string (⟨#[91]⟩ ++ sL ++ ⟨#[44]⟩), .string (sU ++ ⟨#[93]⟩), .string (⟨#[105, 110, 116, 101, 103, 101, 114]⟩), .string (⟨#[99, 111, 115, 116]⟩), .string (sC)] 9)
    have KN := hid (Blk.new v3 [.string (sN), .string (⟨#[105, 110]⟩), .string (⟨#[91]⟩ ++ sL ++ ⟨#[44]⟩), .string (sU ++ ⟨#[93]⟩), .string (⟨#[105, 110, 116, 101, 103, 101, 114]⟩), .string (⟨#[99, 111, 115, 116]⟩), .string (sC)] 9)
    have P6 := hid (P5.out.keep ba)
    clear ba hH P5
    refine hK.out _ _ ?_ (fun hH => ?_)
    exact (blk_fif P6.out.box)
    clear hK K
    (try simp only [Act.put, gy0, gy1, gy2])
    refine tk 13 hH ?_
    (try simp only [Act.put, gy0, gy1, gy2])
    refine wpAnyH_done (by kernel_rfl) ?_ _
    refine NoPanic.normal ?_
    clear hH
    have JN := hid (Tryz.strings_Join v3.heap.size 0 7 [sN, ⟨#[105, 110]⟩, ⟨#[91]⟩ ++ sL ++ ⟨#[44]⟩, sU ++ ⟨#[93]⟩, ⟨#[105, 110, 116, 101, 103, 101, 114]⟩, ⟨#[99, 111, 115, 116]⟩, sC] ⟨#[32]⟩ (v3.alloc (.cells #[.string (sN), .string (⟨#[105, 110]⟩), .string (⟨#[91]⟩ ++ sL ++ ⟨#[44]⟩), .string (sU ++ ⟨#[93]⟩), .string (⟨#[105, 110, 116, 101, 103, 101, 114]⟩), .string (⟨#[99, 111, 115, 116]⟩), .string (sC)] 9)) (fun j x hj => by
      rw [Nat.zero_add, KN.out.cell]
      have hm := congrArg (Option.map Value.string) hj
      rw [← List.getElem?_map] at hm
      exact hm) KN.out.lt (by simp) (by simp) (by
      have l1 := zN.out
      have l2 := zL.out
      have l3 := zC.out
      have l4 := EU.out
      have l5 := size_of EU.out
      simp only [List.map_cons, List.map_nil, join7, catL, EN.out, EL.out, EC.out, List.length_append, List.length_cons, List.length_nil, Array.length_toList]
      have l6 : sU.data.size = sU.size := rfl
      simp
      omega))
    have HP := hid P6.out.bel
    clear KN P6
    go_wp2_with fail
    refine (JN.out).mono ?_
    rintro e v5 ⟨rfl, b⟩
    have BB := hid (bx_call HP.out b)
    clear JN b HP
    go_wp2_with fail
    go_ret
    refine ⟨_, rfl, ?_, BB.out⟩
    show Lib.join _ _ = _
    unfold varTx upTx kdTx
    simp only [EN.out, EL.out, EC.out, EU.out]
    rfl
  case true.false =>
    go_upto_region 6 with fail
    clear y0 y1 y2 y3 y4
    (try simp only [List.append_eq, List.cons_append, List.nil_append])
    refine wp_region_noPanic ?_
    refine wp_region_held_drew (S := (fun W => W.cell? ⟨w.heap.size, 0, none⟩ = some (.int .i64 lo) ∧ W.cell? ⟨w.heap.size, 1, none⟩ = some (.int .i64 up) ∧ W.cell? ⟨w.heap.size, 2, none⟩ = some (.bool true) ∧ W.cell? ⟨w.heap.size, 3, none⟩ = some (.bool false) ∧ W.cell? ⟨w.heap.size, 4, none⟩ = some (.int .i64 co))) (by kernel_rfl) ?_ (fun hH => ?_)
    exact (blk_fif P1.out.box)
    have bd := bx_drew (bx_refl W1)
    obtain ⟨E0, hW0⟩ : ∃ W, W = W1.drew := ⟨_, rfl⟩
    rw [← hW0] at bd hH ⊢
    clear hW0
    have P2 := hid (P1.out.keep bd)
    clear bd P1
    refine tk 0 hH ?_
    (try simp only [Act.put, gy0, gy1, gy2])
    refine tk 2 hH ?_
    (try simp only [Act.put, gy0, gy1, gy2])
    refine tk 3 hH ?_
    (try simp only [Act.put, gy0, gy1, gy2])
    refine tk 7 hH ?_
    (try simp only [Act.put, gy0, gy1, gy2])
    refine tk 8 hH ?_
    (try simp only [Act.put, gy0, gy1, gy2])
    refine tk 9 hH ?_
    (try simp only [Act.put, gy0, gy1, gy2])
    refine tk 10 hH ?_
    (try simp only [Act.put, gy0, gy1, gy2])
    refine wpAnyH_ready (rs := [1]) (by kernel_rfl) (by simp) ?_
    refine rdy (fun K hK => ?_) AllReadyH.nil
    go_simp
    refine (CN.out _ P2.out.bel).mono ?_
    rintro e v1 ⟨sN, rfl, eN, b⟩
    have P3 := hid (P2.out.keep b)
    have EN := hid eN
    clear b hH P2 CN eN
    (try go_wp2_with fail)
    refine hK.out _ _ ?_ (fun hH => ?_)
    exact (blk_fif P3.out.box)
    clear hK K
    (try simp only [Act.put, gy0, gy1, gy2])
    refine wpAnyH_ready (rs := [4]) (by kernel_rfl) (by simp) ?_
    refine rdy (fun K hK => ?_) AllReadyH.nil
    go_simp
    refine (CL.out _ P3.out.bel).mono ?_
    rintro e v2 ⟨sL, rfl, eL, b⟩
    have P4 := hid (P3.out.keep b)
    have sz2 : sL.size ≤ 21 := by rw [size_of eL]; exact zL.out
    have k1 : ¬9223372036854775807 < 1 + sL.size := by omega
    have k2 : ¬9223372036854775807 < 1 + sL.size + 1 := by omega
    have EL := hid eL
    clear b hH P3 CL eL
    (try go_wp2_with fail)
    refine hK.out _ _ ?_ (fun hH => ?_)
    exact (blk_fif P4.out.box)
    clear hK K
    (try simp only [Act.put, gy0, gy1, gy2])
    refine tk 5 hH ?_
    (try simp only [Act.put, gy0, gy1, gy2])
    refine tk 6 hH ?_
    (try simp only [Act.put, gy0, gy1, gy2])
    refine wpAnyH_ready (rs := [11]) (by kernel_rfl) (by simp) ?_
    refine rdy (fun K hK => ?_) AllReadyH.nil
    go_simp
    refine (CC.out _ P4.out.bel).mono ?_
    rintro e v3 ⟨sC, rfl, eC, b⟩
    have P5 := hid (P4.out.keep b)
    have EC := hid eC
    clear b hH P4 CC eC
    (try go_wp2_with fail)
    refine hK.out _ _ ?_ (fun hH => ?_)
    exact (blk_fif P5.out.box)
    clear hK K
    (try simp only [Act.put, gy0, gy1, gy2])
    refine wpAnyH_ready (rs := [12]) (by kernel_rfl) (by simp) ?_
    refine rdy (fun K hK => ?_) AllReadyH.nil
    go_simp
    have ba := bx_alloc (bx_refl v3) (.cells #[.string (sN), .string (⟨#[105, 110]⟩), .string (⟨#[91]⟩ ++ sL ++ ⟨#[44]⟩), .string (⟨#[111, 112, 101, 110, 41]⟩), .string (⟨#[114, 101, 97, 108]⟩), .string (⟨#[99, 111, 115, 116]⟩), .string (sC)] 9)
    have KN := hid (Blk.new v3 [.string (sN), .string (⟨#[105, 110]⟩), .string (⟨#[91]⟩ ++ sL ++ ⟨#[44]⟩), .string (⟨#[111, 112, 101, 110, 41]⟩), .string (⟨#[114, 101, 97, 108]⟩), .string (⟨#[99, 111, 115, 116]⟩), .string (sC)] 9)
    have P6 := hid (P5.out.keep ba)
    clear ba hH P5
    refine hK.out _ _ ?_ (fun hH => ?_)
    exact (blk_fif P6.out.box)
    clear hK K
    (try simp only [Act.put, gy0, gy1, gy2])
    refine tk 13 hH ?_
    (try simp only [Act.put, gy0, gy1, gy2])
    refine wpAnyH_done (by kernel_rfl) ?_ _
    refine NoPanic.normal ?_
    clear hH
    have JN := hid (Tryz.strings_Join v3.heap.size 0 7 [sN, ⟨#[105, 110]⟩, ⟨#[91]⟩ ++ sL ++ ⟨#[44]⟩, ⟨#[111, 112, 101, 110, 41]⟩, ⟨#[114, 101, 97, 108]⟩, ⟨#[99, 111, 115, 116]⟩, sC] ⟨#[32]⟩ (v3.alloc (.cells #[.string (sN), .string (⟨#[105, 110]⟩), .string (⟨#[91]⟩ ++ sL ++ ⟨#[44]⟩), .string (⟨#[111, 112, 101, 110, 41]⟩), .string (⟨#[114, 101, 97, 108]⟩), .string (⟨#[99, 111, 115, 116]⟩), .string (sC)] 9)) (fun j x hj => by
      rw [Nat.zero_add, KN.out.cell]
      have hm := congrArg (Option.map Value.string) hj
      rw [← List.getElem?_map] at hm
      exact hm) KN.out.lt (by simp) (by simp) (by
      have l1 := zN.out
      have l2 := zL.out
      have l3 := zC.out
      have l4 := EU.out
      have l5 := size_of EU.out
      simp only [List.map_cons, List.map_nil, join7, catL, EN.out, EL.out, EC.out, List.length_append, List.length_cons, List.length_nil]
      have l6 : sU.data.size = sU.size := rfl
      simp
      omega))
    have HP := hid P6.out.bel
    clear KN P6
    go_wp2_with fail
    refine (JN.out).mono ?_
    rintro e v5 ⟨rfl, b⟩
    have BB := hid (bx_call HP.out b)
    clear JN b HP
    go_wp2_with fail
    go_ret
    refine ⟨_, rfl, ?_, BB.out⟩
    show Lib.join _ _ = _
    unfold varTx upTx kdTx
    simp only [EN.out, EL.out, EC.out]
    rfl
  case true.true =>
    go_upto_region 6 with fail
    clear y0 y1 y2 y3 y4
    (try simp only [List.append_eq, List.cons_append, List.nil_append])
    refine wp_region_noPanic ?_
    refine wp_region_held_drew (S := (fun W => W.cell? ⟨w.heap.size, 0, none⟩ = some (.int .i64 lo) ∧ W.cell? ⟨w.heap.size, 1, none⟩ = some (.int .i64 up) ∧ W.cell? ⟨w.heap.size, 2, none⟩ = some (.bool true) ∧ W.cell? ⟨w.heap.size, 3, none⟩ = some (.bool true) ∧ W.cell? ⟨w.heap.size, 4, none⟩ = some (.int .i64 co))) (by kernel_rfl) ?_ (fun hH => ?_)
    exact (blk_fif P1.out.box)
    have bd := bx_drew (bx_refl W1)
    obtain ⟨E0, hW0⟩ : ∃ W, W = W1.drew := ⟨_, rfl⟩
    rw [← hW0] at bd hH ⊢
    clear hW0
    have P2 := hid (P1.out.keep bd)
    clear bd P1
    refine tk 0 hH ?_
    (try simp only [Act.put, gy0, gy1, gy2])
    refine tk 2 hH ?_
    (try simp only [Act.put, gy0, gy1, gy2])
    refine tk 3 hH ?_
    (try simp only [Act.put, gy0, gy1, gy2])
    refine tk 7 hH ?_
    (try simp only [Act.put, gy0, gy1, gy2])
    refine tk 8 hH ?_
    (try simp only [Act.put, gy0, gy1, gy2])
    refine tk 9 hH ?_
    (try simp only [Act.put, gy0, gy1, gy2])
    refine tk 10 hH ?_
    (try simp only [Act.put, gy0, gy1, gy2])
    refine wpAnyH_ready (rs := [1]) (by kernel_rfl) (by simp) ?_
    refine rdy (fun K hK => ?_) AllReadyH.nil
    go_simp
    refine (CN.out _ P2.out.bel).mono ?_
    rintro e v1 ⟨sN, rfl, eN, b⟩
    have P3 := hid (P2.out.keep b)
    have EN := hid eN
    clear b hH P2 CN eN
    (try go_wp2_with fail)
    refine hK.out _ _ ?_ (fun hH => ?_)
    exact (blk_fif P3.out.box)
    clear hK K
    (try simp only [Act.put, gy0, gy1, gy2])
    refine wpAnyH_ready (rs := [4]) (by kernel_rfl) (by simp) ?_
    refine rdy (fun K hK => ?_) AllReadyH.nil
    go_simp
    refine (CL.out _ P3.out.bel).mono ?_
    rintro e v2 ⟨sL, rfl, eL, b⟩
    have P4 := hid (P3.out.keep b)
    have sz2 : sL.size ≤ 21 := by rw [size_of eL]; exact zL.out
    have k1 : ¬9223372036854775807 < 1 + sL.size := by omega
    have k2 : ¬9223372036854775807 < 1 + sL.size + 1 := by omega
    have EL := hid eL
    clear b hH P3 CL eL
    (try go_wp2_with fail)
    refine hK.out _ _ ?_ (fun hH => ?_)
    exact (blk_fif P4.out.box)
    clear hK K
    (try simp only [Act.put, gy0, gy1, gy2])
    refine tk 5 hH ?_
    (try simp only [Act.put, gy0, gy1, gy2])
    refine tk 6 hH ?_
    (try simp only [Act.put, gy0, gy1, gy2])
    refine wpAnyH_ready (rs := [11]) (by kernel_rfl) (by simp) ?_
    refine rdy (fun K hK => ?_) AllReadyH.nil
    go_simp
    refine (CC.out _ P4.out.bel).mono ?_
    rintro e v3 ⟨sC, rfl, eC, b⟩
    have P5 := hid (P4.out.keep b)
    have EC := hid eC
    clear b hH P4 CC eC
    (try go_wp2_with fail)
    refine hK.out _ _ ?_ (fun hH => ?_)
    exact (blk_fif P5.out.box)
    clear hK K
    (try simp only [Act.put, gy0, gy1, gy2])
    refine wpAnyH_ready (rs := [12]) (by kernel_rfl) (by simp) ?_
    refine rdy (fun K hK => ?_) AllReadyH.nil
    go_simp
    have ba := bx_alloc (bx_refl v3) (.cells #[.string (sN), .string (⟨#[105, 110]⟩), .string (⟨#[91]⟩ ++ sL ++ ⟨#[44]⟩), .string (⟨#[111, 112, 101, 110, 41]⟩), .string (⟨#[105, 110, 116, 101, 103, 101, 114]⟩), .string (⟨#[99, 111, 115, 116]⟩), .string (sC)] 9)
    have KN := hid (Blk.new v3 [.string (sN), .string (⟨#[105, 110]⟩), .string (⟨#[91]⟩ ++ sL ++ ⟨#[44]⟩), .string (⟨#[111, 112, 101, 110, 41]⟩), .string (⟨#[105, 110, 116, 101, 103, 101, 114]⟩), .string (⟨#[99, 111, 115, 116]⟩), .string (sC)] 9)
    have P6 := hid (P5.out.keep ba)
    clear ba hH P5
    refine hK.out _ _ ?_ (fun hH => ?_)
    exact (blk_fif P6.out.box)
    clear hK K
    (try simp only [Act.put, gy0, gy1, gy2])
    refine tk 13 hH ?_
    (try simp only [Act.put, gy0, gy1, gy2])
    refine wpAnyH_done (by kernel_rfl) ?_ _
    refine NoPanic.normal ?_
    clear hH
    have JN := hid (Tryz.strings_Join v3.heap.size 0 7 [sN, ⟨#[105, 110]⟩, ⟨#[91]⟩ ++ sL ++ ⟨#[44]⟩, ⟨#[111, 112, 101, 110, 41]⟩, ⟨#[105, 110, 116, 101, 103, 101, 114]⟩, ⟨#[99, 111, 115, 116]⟩, sC] ⟨#[32]⟩ (v3.alloc (.cells #[.string (sN), .string (⟨#[105, 110]⟩), .string (⟨#[91]⟩ ++ sL ++ ⟨#[44]⟩), .string (⟨#[111, 112, 101, 110, 41]⟩), .string (⟨#[105, 110, 116, 101, 103, 101, 114]⟩), .string (⟨#[99, 111, 115, 116]⟩), .string (sC)] 9)) (fun j x hj => by
      rw [Nat.zero_add, KN.out.cell]
      have hm := congrArg (Option.map Value.string) hj
      rw [← List.getElem?_map] at hm
      exact hm) KN.out.lt (by simp) (by simp) (by
      have l1 := zN.out
      have l2 := zL.out
      have l3 := zC.out
      have l4 := EU.out
      have l5 := size_of EU.out
      simp only [List.map_cons, List.map_nil, join7, catL, EN.out, EL.out, EC.out, List.length_append, List.length_cons, List.length_nil]
      have l6 : sU.data.size = sU.size := rfl
      simp
      omega))
    have HP := hid P6.out.bel
    clear KN P6
    go_wp2_with fail
    refine (JN.out).mono ?_
    rintro e v5 ⟨rfl, b⟩
    have BB := hid (bx_call HP.out b)
    clear JN b HP
    go_wp2_with fail
    go_ret
    refine ⟨_, rfl, ?_, BB.out⟩
    show Lib.join _ _ = _
    unfold varTx upTx kdTx
    simp only [EN.out, EL.out, EC.out]
    rfl
end Go.Proofs.YtdbccidlnhjfhaaGreatDoor

namespace Go.Proofs.YtdbccidlnhjfhaaGreatDoor
open Go.RowKit
def strs (l : List ByteArray) : List Value := l.map Value.string
theorem strs_append (l m : List ByteArray) : strs (l ++ m) = strs l ++ strs m := by unfold strs; rw [List.map_append]
def txs (l : List ByteArray) : List (List UInt8) := l.map fun s => s.data.toList
theorem txs_append (l m : List ByteArray) : txs (l ++ m) = txs l ++ txs m := by unfold txs; rw [List.map_append]
theorem Tryz.infoStr : ∃ i, Tryz.prog.info? 9 = some i ∧ i.zero = some (.string ⟨#[]⟩) ∧ i.size = 1 ∧ i.bytes = 16 := info_parts (by kernel_rfl)
theorem wpList_append_str {w : World} {ops : Array Oper} {rest : List Oper} {o : Oper} {a : Act} {Q : Exit → Act → World → Prop} (hgd : o.guard = none) (s x : Operand) (ho : o.op = .call { callee := .builtin .append, args := #[s, x], argTypes := #[30, 30] })
    (base : Nat) (v : Value) (l : List ByteArray) (hs : a.eval s = v) (hown : w.ownsRow base 9 1 v l.length (strs l)) (g m : Nat) (ys : List ByteArray) (hm : ys.length = m) (hx : a.eval x = .slice (some ⟨g, 0, none⟩) m m) (hg : Blk w g (strs ys) 9) (hl : l.length + m ≤ 1000000000) (hbase : base ≤ w.heap.size)
    (h : ∀ v' w', w'.ownsRow base 9 1 v' (l ++ ys).length (strs (l ++ ys)) → w.grownBy w' v.ownBlock → wpList Tryz.prog ops Q rest (a.put o.dst v') w') : wpList Tryz.prog ops Q (o :: rest) a w := by
  obtain ⟨i0, hi, hz0, hz1, hz2⟩ := Tryz.infoStr
  subst hm
  refine wpList_append_own w hgd s x 30 ho base 9 i0 (.string ⟨#[]⟩) 1 16 (by kernel_rfl) hi hz0 hz1 hz2 rfl (by decide) v l.length (strs l) hs hown ⟨g, 0, none⟩ ys.length ys.length (strs ys) hx (by unfold strs; simp) (fun k u hk => by rw [addr_add, hg.cell]; exact hk) (fun u hu => by
    unfold strs at hu
    obtain ⟨y, _, rfl⟩ := List.mem_map.1 hu
    rfl) (by unfold maxLen; omega) (by omega) hbase (fun v' w' h2 h3 _ => h v' w' ?_ h3)
  rw [strs_append, List.length_append]
  exact h2
structure SlP (w : World) (B : Nat) (v : Value) (l : List ByteArray) (W : World) : Prop where
  bel : Below w.heap.size w W
  own : W.ownsRow B 9 1 v l.length (strs l)
  ge : w.heap.size ≤ B
  le : B ≤ W.heap.size
section
variable {w W W' : World} {B : Nat} {v : Value} {l : List ByteArray}
theorem SlP.keep (h : SlP w B v l W) (b : Below W.heap.size W W') : SlP w B v l W' := ⟨bx_call h.bel b, own_keep h.own b, h.ge, Nat.le_trans h.le b.size⟩
theorem SlP.grow (h : SlP w B v l W) {v' : Value} {m : List ByteArray} (ho : W'.ownsRow B 9 1 v' m.length (strs m)) (hg : W.grownBy W' v.ownBlock) : SlP w B v' m W' := by
  have hlt := h.own.lt
  have hs := h.le
  have hw := h.ge
  refine ⟨⟨hg.os.trans h.bel.os, hg.tape.trans h.bel.tape, hg.output.trans h.bel.output, Nat.le_trans h.bel.size hg.size, fun k hk => ?_⟩, ho, h.ge, Nat.le_trans h.le hg.size⟩
  rw [hg.block k (by omega) (fun e => by have := (hlt k e.symm).1; omega)]
  exact h.bel.block k hk
theorem SlP.start (b : Below w.heap.size w W) : SlP w W.heap.size (.slice (some ⟨W.heap.size, 0, none⟩) 0 0) [] (W.alloc (.cells #[] 9)) :=
  ⟨bx_alloc b _, ⟨rfl, .inr ⟨W.heap.size, 0, #[], rfl, Nat.le_refl _, heap_alloc_new W _, Nat.le_refl _, by unfold maxLen; omega, rfl, rfl⟩⟩, b.size, by simp⟩
theorem SlP.form (h : SlP w B v l W) : ∃ A c, v = .slice A l.length c ∧ l.length ≤ c ∧ (0 < l.length → ∃ g, A = some ⟨g, 0, none⟩ ∧ g < W.heap.size ∧ ∀ j x, l[j]? = some x → W.cell? ⟨g, 0 + j, none⟩ = some (.string x)) := by
  rcases h.own.2 with ⟨rfl, h0⟩ | ⟨g, cap, cur, rfl, hb, hg, hn, hc, hcs, hcur⟩
  · exact ⟨none, 0, by rw [h0], by omega, fun hk => absurd hk (by omega)⟩
  · refine ⟨some ⟨g, 0, none⟩, cap, rfl, hn, fun _ => ⟨g, rfl, (Array.getElem?_eq_some_iff.1 hg).1, fun j x hj => ?_⟩⟩
    have := h.own.cells (g := g) rfl j (.string x) (by unfold strs; rw [List.getElem?_map, hj]; rfl)
    rw [addr_add] at this
    rw [Nat.zero_add]
    exact this
end
theorem join_le (l : List (List UInt8)) (s : List UInt8) (k : Nat) (h : ∀ x ∈ l, x.length ≤ k) : (Lib.join l s).length ≤ l.length * (k + s.length) := by
  unfold Lib.join
  induction l with
  | nil => simp [List.intercalate]
  | cons x l ih =>
    have h1 := h x List.mem_cons_self
    have h2 := ih (fun y hy => h y (List.mem_cons_of_mem _ hy))
    cases l with
    | nil =>
      simp [List.intercalate]
      omega
    | cons y l =>
      have e : s.intercalate (x :: y :: l) = x ++ (s ++ s.intercalate (y :: l)) := by simp [List.intercalate]
      rw [e, List.length_append, List.length_append, List.length_cons, Nat.succ_mul]
      omega
theorem join_any {w W : World} {B : Nat} {v : Value} {l : List ByteArray} (h : SlP w B v l W) (sep : ByteArray) (hn : l.length ≤ 1000000) (hk : ∀ x ∈ l, x.size ≤ 1000000) (hs : sep.size ≤ 1000) : Calls Tryz.prog 102 #[v, .string sep] W (RetTx W (Lib.join (txs l) sep.data.toList)) := by
  obtain ⟨A, c, rfl, hc, hA⟩ := h.form
  rcases Nat.eq_zero_or_pos l.length with h0 | hpos
  · have hl : l = [] := List.length_eq_zero_iff.1 h0
    subst hl
    refine (Tryz.strings_Join_none A c sep W).mono ?_
    rintro e w' ⟨rfl, rfl⟩
    exact ⟨_, rfl, by simp [txs, Lib.join, List.intercalate], bx_refl _⟩
  · obtain ⟨g, rfl, hg, hcell⟩ := hA hpos
    have hb : (Lib.join (txs l) sep.data.toList).length ≤ 140737488355328 := by
      have h1 := join_le (txs l) sep.data.toList 1000000 (fun x hx => by
        unfold txs at hx
        obtain ⟨y, hy, rfl⟩ := List.mem_map.1 hx
        rw [Array.length_toList]
        exact hk y hy)
      have h2 : (txs l).length = l.length := by unfold txs; simp
      have h3 : sep.data.toList.length ≤ 1000 := by rw [Array.length_toList]; exact hs
      rw [h2] at h1
      have h4 : l.length * (1000000 + sep.data.toList.length) ≤ 1000000 * 1001000 := Nat.mul_le_mul hn (by omega)
      omega
    refine (Tryz.strings_Join g 0 c l sep W hcell hg (by omega) hc hb).mono ?_
    rintro e w' ⟨rfl, b⟩
    exact ⟨_, rfl, rfl, b⟩
def opTx (first neg : Bool) : List UInt8 := if first = true then (if neg = true then [45] else []) else (if neg = true then [32, 45, 32] else [32, 43, 32])
theorem f_op (first neg : Bool) (w : World) : Calls Tryz.prog 138 #[.bool first, .bool neg] w (RetTx w (opTx first neg)) := by
  have B := hid (bx_refl w)
  cases first <;> cases neg
  all_goals
    go_enter Tryz.func138, Tryz.ntmps138
    go_wp2_with fail
    go_ret
    exact ⟨_, rfl, rfl, B.out⟩
end Go.Proofs.YtdbccidlnhjfhaaGreatDoor

namespace Go.Proofs.YtdbccidlnhjfhaaGreatDoor
open Go.RowKit
set_option maxRecDepth 100000
theorem own_off {w : World} {base e sz n g : Nat} {x : Value} {xs cs : List Value} {t : TypeId} (h : w.ownsRow base e sz x n xs) (h' : Blk w g cs t) (ht : t ≠ e) : some g ≠ x.ownBlock := by
  intro hx
  rcases h.2 with ⟨rfl, _⟩ | ⟨g', cap, cur, rfl, _, hg, _⟩
  · cases hx
  · simp only [Value.ownBlock, Option.some.injEq] at hx
    subst hx
    unfold Blk at h'
    rw [hg] at h'
    simp only [Option.some.injEq, Obj.cells.injEq] at h'
    exact ht h'.2.1.symm
theorem blk_grow {w w' : World} {base e sz n g : Nat} {x : Value} {xs cs : List Value} {t : TypeId} (h : w.ownsRow base e sz x n xs) (h' : Blk w g cs t) (ht : t ≠ e) (hg : w.grownBy w' x.ownBlock) : Blk w' g cs t := (hg.block g h'.lt (own_off h h' ht)).trans h'
theorem wp_app {w W : World} {B : Nat} {v : Value} {l : List ByteArray} {ops : Array Oper} {rest : List Oper} {o : Oper} {a : Act} {Q : Exit → Act → World → Prop} (S : Hid (SlP w B v l W)) (ys : List ByteArray) (hgd : o.guard = none) (s x : Operand) (ho : o.op = .call { callee := .builtin .append, args := #[s, x], argTypes := #[30, 30] }) (hs : a.eval s = v) (hx : a.eval x = .slice (some ⟨W.heap.size, 0, none⟩) ys.length ys.length) (hl : l.length + ys.length ≤ 1000000000)
    (h : ∀ v' w', Hid (SlP w B v' (l ++ ys) w') → Hid (∀ g cs t, t ≠ 9 → Blk W g cs t → Blk w' g cs t) → wpList Tryz.prog ops Q rest (a.put o.dst v') w') : wpList Tryz.prog ops Q (o :: rest) a (W.alloc (.cells (strs ys).toArray 9)) := by
  have S1 := S.out.keep (bx_alloc (bx_refl W) (.cells (strs ys).toArray 9))
  exact wpList_append_str hgd s x ho B v l hs S1.own W.heap.size ys.length ys rfl hx (Blk.new W _ _) hl S1.le (fun v' w' h1 h2 => h v' w' (hid (S1.grow h1 h2)) (hid fun g cs t ht k => blk_grow S1.own (k.alloc _) ht h2))
def absI (c : Int) : Int := if c < 0 then -c else c
def tpart (v cf : Nat → Int) (i : Nat) : List (List UInt8) := [opTx (decide ((i : Int) = 0)) (decide (cf i < 0))] ++ ((if absI (cf i) = 1 then [] else [Lib.itoa (absI (cf i)), [32]]) ++ [120 :: Lib.itoa (v i)])
def tparts (v cf : Nat → Int) : Nat → List (List UInt8)
  | 0 => []
  | n + 1 => tparts v cf n ++ tpart v cf n
def sumTx (tn : Nat) (v cf : Nat → Int) : List UInt8 := if tn = 0 then [48] else Lib.join (tparts v cf tn) []
theorem tpart_len (v cf : Nat → Int) (i : Nat) : (tpart v cf i).length ≤ 4 := by
  unfold tpart
  split <;> simp
theorem tparts_len (v cf : Nat → Int) (n : Nat) : (tparts v cf n).length ≤ 4 * n := by
  induction n with
  | zero => simp [tparts]
  | succ n ih =>
    have := tpart_len v cf n
    simp only [tparts, List.length_append]
    omega
theorem abs_max {c : Int} (h : -4611686018427387904 ≤ c ∧ c ≤ 4611686018427387904) : max c (wrap64 (-c)) = absI c := by
  have : wrap64 (-c) = -c := by
    unfold wrap64
    omega
  rw [this]
  unfold absI
  split <;> omega
theorem abs_lo {c : Int} (h : -4611686018427387904 ≤ c ∧ c ≤ 4611686018427387904) : -9223372036854775808 ≤ max c (wrap64 (-c)) := by
  rw [abs_max h]
  unfold absI
  split <;> omega
theorem abs_hi {c : Int} (h : -4611686018427387904 ≤ c ∧ c ≤ 4611686018427387904) : max c (wrap64 (-c)) ≤ 9223372036854775807 := by
  rw [abs_max h]
  unfold absI
  split <;> omega
structure TmP (w : World) (B : Nat) (v cf : Nat → Int) (j : Nat) (u : Value) (W : World) : Prop where
  ex : ∃ l, SlP w B u l W ∧ txs l = tparts v cf j ∧ ∀ x ∈ l, x.size ≤ 30
theorem tpart_mem {v cf : Nat → Int} {i : Nat} (hv : -9223372036854775808 ≤ v i ∧ v i ≤ 9223372036854775807) (hc : -4611686018427387904 ≤ cf i ∧ cf i ≤ 4611686018427387904) : ∀ x ∈ tpart v cf i, x.length ≤ 30 := by
  have h1 := Lib.itoa_length_le (v i) hv.1 hv.2
  have h2 := Lib.itoa_length_le (absI (cf i)) (by rw [← abs_max hc]; exact abs_lo hc) (by rw [← abs_max hc]; exact abs_hi hc)
  have h3 : (opTx (decide ((i : Int) = 0)) (decide (cf i < 0))).length ≤ 3 := by
    unfold opTx
    split <;> split <;> simp
  intro x hx
  unfold tpart at hx
  split at hx
  · simp only [List.nil_append, List.mem_append, List.mem_singleton] at hx
    rcases hx with rfl | rfl
    · omega
    · simp only [List.length_cons]
      omega
  · simp only [List.mem_append, List.mem_cons, List.not_mem_nil, or_false] at hx
    rcases hx with rfl | (rfl | rfl) | rfl
    · omega
    · omega
    · simp
    · simp only [List.length_cons]
      omega
theorem tm_step {w W : World} {B j : Nat} {u : Value} {v cf : Nat → Int} {l ms : List ByteArray} (S : SlP w B u (l ++ ms) W) (hL0 : txs l = tparts v cf j) (hL1 : ∀ x ∈ l, x.size ≤ 30) (hv : -9223372036854775808 ≤ v j ∧ v j ≤ 9223372036854775807) (hc : -4611686018427387904 ≤ cf j ∧ cf j ≤ 4611686018427387904) (hm : txs ms = tpart v cf j) : TmP w B v cf (j + 1) u W :=
  ⟨l ++ ms, S, by rw [txs_append, hL0, hm]; rfl, fun x hx => by
    rcases List.mem_append.1 hx with h | h
    · exact hL1 x h
    · have := tpart_mem hv hc x.data.toList (by rw [← hm]; unfold txs; exact List.mem_map.2 ⟨x, h, rfl⟩)
      rw [Array.length_toList] at this
      exact this⟩
set_option maxHeartbeats 8000000 in
theorem f_terms (A : Option Addr) (tn tc : Nat) (v cf : Nat → Int) (w : World) (hT : Ts w A tn tc v cf) (htn : tn ≤ 10000) (hcf : ∀ t, t < tn → -4611686018427387904 ≤ cf t ∧ cf t ≤ 4611686018427387904) (ht : Tab w) :
    Calls Tryz.prog 104 #[.slice A tn tc] w (RetTx w (sumTx tn v cf)) := by
  have h1 := hT.1
  have h2 := hT.2.1
  have HT := hid hT
  have HC := hid hcf
  have TB := hid ht
  have BR := hid (bx_refl w)
  clear hT hcf ht
  go_enter Tryz.func104, Tryz.ntmps104
  rcases Nat.eq_zero_or_pos tn with rfl | hpos
  · go_wp2_with fail
    go_ret
    exact ⟨_, rfl, rfl, BR.out⟩
  have t1 : ((tn : Int) == 0) = false := beq_eq_false_iff_ne.2 (by omega)
  have t2 : decide ((tn : Int) = 0) = false := decide_eq_false (by omega)
  have t3 : ¬tn = 0 := by omega
  have ST := hid (show TmP w w.heap.size v cf 0 (.slice (some ⟨w.heap.size, 0, none⟩) 0 0) (w.alloc (.cells #[] 9)) from ⟨[], SlP.start BR.out, rfl, fun x hx => by cases hx⟩)
  clear BR
  go_wp2_with fail
  clear t1 t2
  go_loopw [3, 13] (fun u i wr => ∃ j : Nat, j ≤ tn ∧ i = .int .i64 j ∧ Hid (TmP w w.heap.size v cf j u wr)) (fun _ i _ => tn - (intOf i).toNat)
  case atStart => exact ⟨0, Nat.zero_le _, rfl, ST⟩
  case round =>
    clear ST
    obtain ⟨j, hj, rfl, hz⟩ := hrel
    obtain ⟨l, S0, hl0, hl1⟩ := hz.out.ex
    have hS0 := hid S0
    have hll : l.length ≤ 4 * j := by
      have := tparts_len v cf j
      rw [← hl0] at this
      simpa [txs] using this
    have hL0 := hid hl0
    have hL1 := hid hl1
    clear hz S0 hl0 hl1
    rcases Nat.lt_or_ge j tn with hlt | hge
    · obtain ⟨b, o, rfl, hb, hcell⟩ := HT.out.2.2.2 (by omega)
      obtain ⟨x0, x1⟩ := hcell j hlt
      have c0 := cell_bx x0 hS0.out.bel
      have c1 := cell_bx x1 hS0.out.bel
      have hvj := hid ((HT.out.2.2.1 j hlt).1)
      have hcj := hid (HC.out j hlt)
      obtain ⟨vj, hv9⟩ : ∃ x, x = v j := ⟨_, rfl⟩
      obtain ⟨cj, hc9⟩ : ∃ x, x = cf j := ⟨_, rfl⟩
      have EV := hid hv9
      have EC := hid hc9
      rw [← hv9] at c0 hvj
      rw [← hc9] at c1 hcj
      clear HC x0 x1 hcell hv9 hc9
      go_wp2_with fail
      refine (f_op _ _ _).mono ?_
      rintro e' w' ⟨s, rfl, hs, hw⟩
      have S1 := hid (hS0.out.keep (bx_call (bx_alloc (bx_refl wr) _) hw))
      have K1 := hid (Blk.keep (Blk.new wr [.int .i64 vj, .int .i64 cj] 94) hw)
      clear hw
      go_wp2_with (at_builtin
                   go_loud (refine wp_app S1 [s] rfl (.tmp 18) (.tmp 25) rfl rfl rfl (by show l.length + 1 ≤ 1000000000; omega) ?_)
                   intro v1 w1 S2 K2
                   have B2 := hid (K2.out _ _ _ (by decide) K1.out)
                   obtain ⟨d0, d1⟩ := blk_two B2.out
                   clear K1 K2)
      · have hn : (max cj (wrap64 (-cj)) != 1) = true := by assumption
        refine (f_decimal _ _ (abs_lo hcj.out) (abs_hi hcj.out) (TB.out.keep S2.out.bel)).mono ?_
        rintro e' w3 ⟨s2, rfl, hs2, hw⟩
        have S3 := hid (S2.out.keep hw)
        have B3 := hid (B2.out.keep hw)
        clear B2 S2 d0 d1 hw
        go_wp2_with (at_builtin
                     refine wp_app S3 [s2, ⟨#[32]⟩] rfl (.tmp 35) (.tmp 38) rfl rfl rfl (by rw [List.length_append]; show l.length + 1 + 2 ≤ 1000000000; omega) ?_
                     intro v2 w4 S4 K4
                     have B4 := hid (K4.out _ _ _ (by decide) B3.out)
                     obtain ⟨d2, d3⟩ := blk_two B4.out
                     clear K4)
        refine (f_name _ _ hvj.out.1 hvj.out.2 (TB.out.keep S4.out.bel)).mono ?_
        rintro e' w5 ⟨s3, rfl, hs3, hw⟩
        have S5 := hid (S4.out.keep hw)
        clear hw
        go_wp2_with (at_builtin
                     refine wp_app S5 [s3] rfl (.tmp 40) (.tmp 44) rfl rfl rfl (by simp only [List.length_append, List.length_cons, List.length_nil]; omega) ?_
                     intro v3 w6 S6 K6
                     clear K6)
        have hne : ¬ absI cj = 1 := by
          rw [← abs_max hcj.out]
          simpa using hn
        refine ⟨⟨j + 1, by omega, rfl, hid (tm_step (by rw [List.append_assoc, List.append_assoc] at S6; exact S6.out) hL0.out hL1.out (by rw [← EV.out]; exact hvj.out) (by rw [← EC.out]; exact hcj.out) ?_)⟩, by show tn - ((j : Int) + 1).toNat < tn - (j : Int).toNat; omega⟩
        unfold tpart
        rw [← EV.out, ← EC.out, if_neg hne, ← abs_max hcj.out, ← hs2, ← hs3]
        show [s.data.toList, s2.data.toList, [32], s3.data.toList] = _
        rw [hs]
        rfl
      · have hn : (max cj (wrap64 (-cj)) != 1) = false := by assumption
        refine (f_name _ _ hvj.out.1 hvj.out.2 (TB.out.keep S2.out.bel)).mono ?_
        rintro e' w5 ⟨s3, rfl, hs3, hw⟩
        have S5 := hid (S2.out.keep hw)
        clear hw
        go_wp2_with (at_builtin
                     refine wp_app S5 [s3] rfl (.tmp 40) (.tmp 44) rfl rfl rfl (by simp only [List.length_append, List.length_cons, List.length_nil]; omega) ?_
                     intro v3 w6 S6 K6
                     clear K6)
        have hne : absI cj = 1 := by
          rw [← abs_max hcj.out]
          simpa using hn
        refine ⟨⟨j + 1, by omega, rfl, hid (tm_step (by rw [List.append_assoc] at S6; exact S6.out) hL0.out hL1.out (by rw [← EV.out]; exact hvj.out) (by rw [← EC.out]; exact hcj.out) ?_)⟩, by show tn - ((j : Int) + 1).toNat < tn - (j : Int).toNat; omega⟩
        unfold tpart
        rw [← EV.out, ← EC.out, if_pos hne, ← hs3]
        show [s.data.toList, s3.data.toList] = _
        rw [hs]
        rfl
    · obtain rfl : tn = j := by omega
      go_wp2_with fail
      refine (join_any hS0.out ⟨#[]⟩ (by omega) (fun x hx => Nat.le_trans (hL1.out x hx) (by decide)) (by decide)).mono ?_
      rintro e' w1 ⟨s, rfl, hs, hw⟩
      have b := hid (bx_call hS0.out.bel hw)
      have hs1 : s.data.toList = sumTx tn v cf := by
        unfold sumTx
        rw [if_neg t3, ← hL0.out]
        exact hs
      go_wp2_with fail
      go_ret
      exact ⟨_, rfl, hs1, b.out⟩
end Go.Proofs.YtdbccidlnhjfhaaGreatDoor

namespace Go.Proofs.YtdbccidlnhjfhaaGreatDoor
open Go.RowKit
set_option maxRecDepth 100000
def ent (k : Int) (v : Value) (n : Nat) : MapEntry := { key := .int .i64 k, val := v, born := n }
theorem put_newS {W : World} {b : Nat} {es : Array MapEntry} {clock : Nat} (hb : W.heap[b]? = some (.map es clock)) {k : Int} {v : Value} (hn : Instr.findNow (.int .i64) (.int .i64 k) es.toList 0 = some none) :
    (Instr.mapUpdate 123 (.map (some b)) (.int .i64 k) v).run Tryz.prog W = .ok () (W.putObj b (.map (es.push (ent k v clock)) (clock + 1))) := by
  have h1 : Tryz.prog.underlying 123 = some (.map 3 9) := by kernel_rfl
  have h2 : Tryz.prog.underlying 3 = some (.int .i64) := by kernel_rfl
  have hk : MapKept.IsKey (.int .i64) (.int .i64 k) := by first | rfl | trivial | simp [MapKept.IsKey]
  simp [Instr.mapUpdate, run_underlying h1, MapKept.run_getObj_map hb, MapKept.run_checkKey h2 hk, MapKept.run_findKey h2 hn, MapKept.run_setObj_map _ hb, Result.andThen, ent, World.putObj]
theorem put_bel {w W : World} {b : Nat} {o : Obj} (h : Below w.heap.size w W) (hb : w.heap.size ≤ b) : Below w.heap.size w (W.putObj b o) :=
  h.trans ⟨rfl, rfl, rfl, by simp, fun k hk => World.putObj_heap_other (by omega)⟩
theorem put_blk {W : World} {b g : Nat} {o : Obj} {cs : List Value} {t : TypeId} (h : Blk W g cs t) (hb : b ≠ g) : Blk (W.putObj b o) g cs t := (World.putObj_heap_other hb.symm).trans h
theorem look_atS {W : World} {b : Nat} {es : Array MapEntry} {clock : Nat} (hb : W.heap[b]? = some (.map es clock)) {k : Int} {v : Value} {i : Nat} (hn : Instr.findNow (.int .i64) (.int .i64 k) es.toList 0 = some (some (i, v))) :
    (Instr.lookup 123 (.map (some b)) (.int .i64 k) false).run Tryz.prog W = .ok v W := by
  have h1 : Tryz.prog.underlying 123 = some (.map 3 9) := by kernel_rfl
  have h2 : Tryz.prog.underlying 3 = some (.int .i64) := by kernel_rfl
  have hk : MapKept.IsKey (.int .i64) (.int .i64 k) := by first | rfl | trivial | simp [MapKept.IsKey]
  simp [Instr.lookup, run_underlying h1, MapKept.run_getObj_map hb, MapKept.run_checkKey h2 hk, MapKept.run_findKey h2 hn, Result.andThen]
def rel0 : Array MapEntry := #[]
def rel1 : Array MapEntry := #[ent 0 (.string ⟨#[60, 61]⟩) 0]
def rel2 : Array MapEntry := #[ent 0 (.string ⟨#[60, 61]⟩) 0, ent 1 (.string ⟨#[62, 61]⟩) 1]
def rel3 : Array MapEntry := #[ent 0 (.string ⟨#[60, 61]⟩) 0, ent 1 (.string ⟨#[62, 61]⟩) 1, ent 2 (.string ⟨#[61]⟩) 2]
def relB (ki : Int) : ByteArray := if ki = 0 then ⟨#[60, 61]⟩ else if ki = 1 then ⟨#[62, 61]⟩ else ⟨#[61]⟩
theorem look_rel {W : World} {b : Nat} (hb : W.heap[b]? = some (.map rel3 3)) {ki : Int} (h : 0 ≤ ki ∧ ki ≤ 2) : (Instr.lookup 123 (.map (some b)) (.int .i64 ki) false).run Tryz.prog W = .ok (.string (relB ki)) W := by
  have : ki = 0 ∨ ki = 1 ∨ ki = 2 := by omega
  rcases this with rfl | rfl | rfl
  · exact look_atS hb (k := 0) (i := 0) rfl
  · exact look_atS hb (k := 1) (i := 1) rfl
  · exact look_atS hb (k := 2) (i := 2) rfl
structure Kr (w : World) (b : Nat) (cs : List Value) (W : World) : Prop where
  bel : Below w.heap.size w W
  box : Blk W w.heap.size cs 77
  mp : W.heap[b]? = some (.map rel3 3)
theorem Kr.keep {w W W' : World} {b : Nat} {cs : List Value} (h : Kr w b cs W) (k : Below W.heap.size W W') : Kr w b cs W' := ⟨bx_call h.bel k, h.box.keep k, (k.block b (Array.getElem?_eq_some_iff.1 h.mp).1).trans h.mp⟩
theorem kr_all {w W : World} {b : Nat} {nm : ByteArray} {gr ki bo : Int} {TA : Option Addr} {tn tc : Nat} (h : Kr w b [.string nm, .int .i64 gr, .int .i64 ki, .slice TA tn tc, .int .i64 bo] W) (hk : 0 ≤ ki ∧ ki ≤ 2) : W.cell? ⟨w.heap.size, 0, none⟩ = some (.string nm) ∧ W.cell? ⟨w.heap.size, 1, none⟩ = some (.int .i64 gr) ∧ W.cell? ⟨w.heap.size, 2, none⟩ = some (.int .i64 ki) ∧ W.cell? ⟨w.heap.size, 3, none⟩ = some (.slice TA tn tc) ∧ W.cell? ⟨w.heap.size, 4, none⟩ = some (.int .i64 bo) ∧ (Instr.lookup 123 (.map (some b)) (.int .i64 ki) false).run Tryz.prog W = .ok (.string (relB ki)) W := by
  obtain ⟨y0, y1, y2, y3, y4⟩ := blk_fif h.box
  exact ⟨y0, y1, y2, y3, y4, look_rel h.mp hk⟩
theorem join5 (a b c d e s : List UInt8) : Lib.join [a, b, c, d, e] s = a ++ (s ++ (b ++ (s ++ (c ++ (s ++ (d ++ (s ++ e))))))) := by
  unfold Lib.join
  simp [List.intercalate]
theorem sumTx_len {tn : Nat} {v cf : Nat → Int} (hv : ∀ t, t < tn → -9223372036854775808 ≤ v t ∧ v t ≤ 9223372036854775807) (hc : ∀ t, t < tn → -4611686018427387904 ≤ cf t ∧ cf t ≤ 4611686018427387904) (htn : tn ≤ 10000) : (sumTx tn v cf).length ≤ 2000000 := by
  unfold sumTx
  split
  · simp
  · have h1 : ∀ n, n ≤ tn → ∀ x ∈ tparts v cf n, x.length ≤ 30 := by
      intro n
      induction n with
      | zero =>
        intro _ x hx
        simp [tparts] at hx
      | succ n ih =>
        intro hn x hx
        simp only [tparts, List.mem_append] at hx
        rcases hx with h | h
        · exact ih (by omega) x h
        · exact tpart_mem (hv n (by omega)) (hc n (by omega)) x h
    have h2 := join_le (tparts v cf tn) [] 30 (h1 tn (Nat.le_refl _))
    have h3 := tparts_len v cf tn
    simp only [List.length_nil] at h2
    omega
def rowTx (nm : ByteArray) (gr ki bo : Int) (tn : Nat) (v cf : Nat → Int) : List UInt8 := Lib.join [nm.data.toList, 40 :: (Lib.itoa gr ++ [41, 58]), sumTx tn v cf, (relB ki).data.toList, Lib.itoa bo] [32]
theorem relB_len (ki : Int) : (relB ki).size ≤ 2 := by
  unfold relB
  split
  · decide
  · split <;> decide
set_option maxHeartbeats 8000000 in
theorem f_row (nm : ByteArray) (gr ki bo : Int) (TA : Option Addr) (tn tc : Nat) (v cf : Nat → Int) (w : World) (hn : nm.size ≤ 1000) (h0 : -9223372036854775808 ≤ gr ∧ gr ≤ 9223372036854775807) (hk : 0 ≤ ki ∧ ki ≤ 2) (h1 : -9223372036854775808 ≤ bo ∧ bo ≤ 9223372036854775807) (hT : Ts w TA tn tc v cf) (htn : tn ≤ 10000) (hcf : ∀ t, t < tn → -4611686018427387904 ≤ cf t ∧ cf t ≤ 4611686018427387904) (ht : Tab w) :
    Calls Tryz.prog 60 #[.agg #[.string nm, .int .i64 gr, .int .i64 ki, .slice TA tn tc, .int .i64 bo]] w (RetTx w (rowTx nm gr ki bo tn v cf)) := by
  have CG := hid (fun (W : World) (b : Below w.heap.size w W) => Tryz.strconv_Itoa gr h0.1 h0.2 W (ht.keep b))
  have CB := hid (fun (W : World) (b : Below w.heap.size w W) => f_decimal bo W h1.1 h1.2 (ht.keep b))
  have CT := hid (fun (W : World) (b : Below w.heap.size w W) => f_terms TA tn tc v cf W (hT.keep b) htn hcf (ht.keep b))
  have zG := hid (Lib.itoa_length_le gr h0.1 h0.2)
  have zB := hid (Lib.itoa_length_le bo h1.1 h1.2)
  have zT := hid (sumTx_len (fun t ht => (hT.2.2.1 t ht).1) hcf htn)
  have zN := hid hn
  obtain ⟨sG, hsG⟩ : ∃ s : ByteArray, s = ⟨(Lib.itoa gr).toArray⟩ := ⟨_, rfl⟩
  have sz1 : sG.size ≤ 21 := by
    rw [hsG]
    show (Lib.itoa gr).toArray.size ≤ 21
    simpa using zG.out
  have EG := hid (show sG.data.toList = Lib.itoa gr by rw [hsG])
  rw [← hsG] at CG
  obtain ⟨W0, hW⟩ : ∃ W, W = w.alloc (.cells #[.string nm, .int .i64 gr, .int .i64 ki, .slice TA tn tc, .int .i64 bo] 77) := ⟨_, rfl⟩
  have B0 := bx_alloc (bx_refl w) (.cells #[.string nm, .int .i64 gr, .int .i64 ki, .slice TA tn tc, .int .i64 bo] 77)
  have K0 := Blk.new w [.string nm, .int .i64 gr, .int .i64 ki, .slice TA tn tc, .int .i64 bo] 77
  change Blk (w.alloc (.cells #[.string nm, .int .i64 gr, .int .i64 ki, .slice TA tn tc, .int .i64 bo] 77)) _ _ _ at K0
  rw [← hW] at B0 K0
  have hlt := K0.lt
  obtain ⟨M0, g0⟩ : ∃ W, W = W0.alloc (.map #[] 0) := ⟨_, rfl⟩
  have b0 : M0.heap[W0.heap.size]? = some (.map rel0 0) := by rw [g0]; exact heap_alloc_new W0 _
  have l0 : W0.heap.size < M0.heap.size := by rw [g0]; simp
  have p0 := put_newS b0 (k := 0) (v := .string ⟨#[60, 61]⟩) rfl
  obtain ⟨M1, g1⟩ : ∃ W, W = M0.putObj W0.heap.size (.map (rel0.push (ent 0 (.string ⟨#[60, 61]⟩) 0)) (0 + 1)) := ⟨_, rfl⟩
  have b1 : M1.heap[W0.heap.size]? = some (.map rel1 1) := by rw [g1]; exact World.putObj_heap_same l0
  have l1 : W0.heap.size < M1.heap.size := by rw [g1]; simpa using l0
  have p1 := put_newS b1 (k := 1) (v := .string ⟨#[62, 61]⟩) rfl
  obtain ⟨M2, g2⟩ : ∃ W, W = M1.putObj W0.heap.size (.map (rel1.push (ent 1 (.string ⟨#[62, 61]⟩) 1)) (1 + 1)) := ⟨_, rfl⟩
  have b2 : M2.heap[W0.heap.size]? = some (.map rel2 2) := by rw [g2]; exact World.putObj_heap_same l1
  have l2 : W0.heap.size < M2.heap.size := by rw [g2]; simpa using l1
  have p2 := put_newS b2 (k := 2) (v := .string ⟨#[61]⟩) rfl
  obtain ⟨M3, g3⟩ : ∃ W, W = M2.putObj W0.heap.size (.map (rel2.push (ent 2 (.string ⟨#[61]⟩) 2)) (2 + 1)) := ⟨_, rfl⟩
  have b3 : M3.heap[W0.heap.size]? = some (.map rel3 3) := by rw [g3]; exact World.putObj_heap_same l2
  rw [← g1] at p0
  rw [← g2] at p1
  rw [← g3] at p2
  have P0 := hid (show Kr w W0.heap.size [.string nm, .int .i64 gr, .int .i64 ki, .slice TA tn tc, .int .i64 bo] M3 from by
    refine ⟨?_, ?_, b3⟩
    · rw [g3, g2, g1, g0]
      have h := B0.size
      exact put_bel (put_bel (put_bel (bx_alloc B0 _) h) h) h
    · rw [g3, g2, g1, g0]
      have h : W0.heap.size ≠ w.heap.size := by omega
      exact put_blk (put_blk (put_blk (K0.alloc _) h) h) h)
  rw [g0] at p0
  clear B0 K0 h0 h1 ht b0 b1 b2 b3 l0 l1 l2 g0 g1 g2 g3 hT hcf hn hsG hlt htn
  have hmm := @run_makeMap Tryz.prog
  go_enter Tryz.func60, Tryz.ntmps60
  go_upto_region 1 with fail
  rw [← hW]
  clear hW
  go_upto_region 2 with fail
  obtain ⟨y0, y1, y2, y3, y4⟩ := blk_fif P0.out.box
  go_wp2_with fail
  refine (CG.out _ P0.out.bel).mono ?_
  rintro e W1 ⟨rfl, k, os, rfl⟩
  have P1 := hid (P0.out.keep (Lib.below_grow M3.heap.size M3 (Nat.le_refl _) k os))
  obtain ⟨W1, hW⟩ : ∃ W, W = Sort.grow (M3.drewN k) os := ⟨_, rfl⟩
  rw [← hW] at P1 ⊢
  clear hW P0 CG y0 y1 y2 y3 y4
  have k1 : ¬9223372036854775807 < 1 + sG.size := by omega
  have k2 : ¬9223372036854775807 < 1 + sG.size + 2 := by omega
  go_upto_region 3 with fail
  (try simp only [List.append_eq, List.cons_append, List.nil_append])
  refine wp_region_noPanic ?_
  refine wp_region_held_drew (S := (fun W => W.cell? ⟨w.heap.size, 0, none⟩ = some (.string nm) ∧ W.cell? ⟨w.heap.size, 1, none⟩ = some (.int .i64 gr) ∧ W.cell? ⟨w.heap.size, 2, none⟩ = some (.int .i64 ki) ∧ W.cell? ⟨w.heap.size, 3, none⟩ = some (.slice TA tn tc) ∧ W.cell? ⟨w.heap.size, 4, none⟩ = some (.int .i64 bo) ∧ (Instr.lookup 123 (.map (some W0.heap.size)) (.int .i64 ki) false).run Tryz.prog W = .ok (.string (relB ki)) W)) (by kernel_rfl) ?_ (fun hH => ?_)
  exact kr_all (P1.out.keep (bx_drew (bx_refl W1))) hk
  have bd := bx_drew (bx_refl W1)
  obtain ⟨E0, hW0⟩ : ∃ W, W = W1.drew := ⟨_, rfl⟩
  rw [← hW0] at bd hH ⊢
  clear hW0
  have P2 := hid (P1.out.keep bd)
  clear bd P1
  refine tk 0 hH ?_
  (try simp only [Act.put, gy0, gy1, gy2])
  refine tk 1 hH ?_
  (try simp only [Act.put, gy0, gy1, gy2])
  refine tk 2 hH ?_
  (try simp only [Act.put, gy0, gy1, gy2])
  refine tk 3 hH ?_
  (try simp only [Act.put, gy0, gy1, gy2])
  refine tk 4 hH ?_
  (try simp only [Act.put, gy0, gy1, gy2])
  refine tk 6 hH ?_
  (try simp only [Act.put, gy0, gy1, gy2])
  refine tk 7 hH ?_
  (try simp only [Act.put, gy0, gy1, gy2])
  refine tk 8 hH ?_
  (try simp only [Act.put, gy0, gy1, gy2])
  refine tk 9 hH ?_
  (try simp only [Act.put, gy0, gy1, gy2])
  refine tk 10 hH ?_
  (try simp only [Act.put, gy0, gy1, gy2])
  refine tk 11 hH ?_
  (try simp only [Act.put, gy0, gy1, gy2])
  refine wpAnyH_ready (rs := [5]) (by kernel_rfl) (by simp) ?_
  refine rdy (fun K hK => ?_) AllReadyH.nil
  go_simp
  refine (CT.out _ P2.out.bel).mono ?_
  rintro e v1 ⟨sT, rfl, eT, b⟩
  have P3 := hid (P2.out.keep b)
  have ET := hid eT
  clear b hH P2 CT eT
  (try go_wp2_with fail)
  refine hK.out _ _ ?_ (fun hH => ?_)
  exact kr_all P3.out hk
  clear hK K
  (try simp only [Act.put, gy0, gy1, gy2])
  refine wpAnyH_ready (rs := [12]) (by kernel_rfl) (by simp) ?_
  refine rdy (fun K hK => ?_) AllReadyH.nil
  go_simp
  refine (CB.out _ P3.out.bel).mono ?_
  rintro e v2 ⟨sB, rfl, eB, b⟩
  have P4 := hid (P3.out.keep b)
  have EB := hid eB
  clear b hH P3 CB eB
  (try go_wp2_with fail)
  refine hK.out _ _ ?_ (fun hH => ?_)
  exact kr_all P4.out hk
  clear hK K
  (try simp only [Act.put, gy0, gy1, gy2])
  refine wpAnyH_ready (rs := [13]) (by kernel_rfl) (by simp) ?_
  refine rdy (fun K hK => ?_) AllReadyH.nil
  go_simp
  have ba := bx_alloc (bx_refl v2) (.cells #[.string (nm), .string (⟨#[40]⟩ ++ sG ++ ⟨#[41, 58]⟩), .string (sT), .string (relB ki), .string (sB)] 9)
  have KN := hid (Blk.new v2 [.string (nm), .string (⟨#[40]⟩ ++ sG ++ ⟨#[41, 58]⟩), .string (sT), .string (relB ki), .string (sB)] 9)
  have P5 := hid (P4.out.keep ba)
  clear ba hH P4
  refine hK.out _ _ ?_ (fun hH => ?_)
  exact kr_all P5.out hk
  clear hK K
  (try simp only [Act.put, gy0, gy1, gy2])
  refine tk 14 hH ?_
  (try simp only [Act.put, gy0, gy1, gy2])
  refine wpAnyH_done (by kernel_rfl) ?_ _
  refine NoPanic.normal ?_
  clear hH
  have JN := hid (Tryz.strings_Join v2.heap.size 0 5 [nm, ⟨#[40]⟩ ++ sG ++ ⟨#[41, 58]⟩, sT, relB ki, sB] ⟨#[32]⟩ (v2.alloc (.cells #[.string (nm), .string (⟨#[40]⟩ ++ sG ++ ⟨#[41, 58]⟩), .string (sT), .string (relB ki), .string (sB)] 9)) (fun j x hj => by
    rw [Nat.zero_add, KN.out.cell]
    have hm := congrArg (Option.map Value.string) hj
    rw [← List.getElem?_map] at hm
    exact hm) KN.out.lt (by simp) (by simp) (by
    have l1 := zG.out
    have l2 := zB.out
    have l3 := zT.out
    have l4 := zN.out
    have l5 := relB_len ki
    simp only [List.map_cons, List.map_nil, join5, catL, ET.out, EG.out, EB.out, List.length_append, List.length_cons, List.length_nil, Array.length_toList]
    have l6 : nm.data.size = nm.size := rfl
    have l7 : (relB ki).data.size = (relB ki).size := rfl
    simp
    omega))
  have HP := hid P5.out.bel
  clear KN P5
  go_wp2_with fail
  refine (JN.out).mono ?_
  rintro e v5 ⟨rfl, b⟩
  have BB := hid (bx_call HP.out b)
  clear JN b HP
  go_wp2_with fail
  go_ret
  refine ⟨_, rfl, ?_, BB.out⟩
  show Lib.join _ _ = _
  unfold rowTx
  simp only [EG.out, EB.out, ET.out]
end Go.Proofs.YtdbccidlnhjfhaaGreatDoor

namespace Go.Proofs.YtdbccidlnhjfhaaGreatDoor
open Go.RowKit
set_option maxRecDepth 100000
structure LnP (w : World) (B : Nat) (ls : List (List UInt8)) (u : Value) (W : World) : Prop where
  ex : ∃ l, SlP w B u l W ∧ txs l = ls
def RetLn (w : World) (ls : List (List UInt8)) (e : Ending) (w' : World) : Prop := ∃ u B, e = .returned u ∧ LnP w B ls u w'
theorem LnP.start (w : World) : LnP w w.heap.size [] (.slice (some ⟨w.heap.size, 0, none⟩) 0 0) (w.alloc (.cells #[] 9)) := ⟨[], SlP.start (bx_refl w), rfl⟩
theorem ln_nil {w W : World} (b : Below w.heap.size w W) : LnP w W.heap.size [] (.slice none 0 0) W := ⟨[], ⟨b, ⟨rfl, .inl ⟨rfl, rfl⟩⟩, b.size, Nat.le_refl _⟩, rfl⟩
theorem LnP.from {w W1 W : World} {B : Nat} {ls : List (List UInt8)} {u : Value} (b : Below w.heap.size w W1) (h : LnP W1 B ls u W) : LnP w B ls u W := by
  obtain ⟨l, h1, h2⟩ := h.ex
  exact ⟨l, ⟨bx_call b h1.bel, h1.own, Nat.le_trans b.size h1.ge, h1.le⟩, h2⟩
theorem map_next {α : Type} (f : Nat → α) (j : Nat) : (List.range (j + 1)).map f = (List.range j).map f ++ [f j] := by
  rw [List.range_succ, List.map_append]
  rfl
theorem ln_step {w W : World} {B : Nat} {u : Value} {l : List ByteArray} {s : ByteArray} {ls : List (List UInt8)} {x : List UInt8} (S : SlP w B u (l ++ [s]) W) (hl : txs l = ls) (hs : s.data.toList = x) : LnP w B (ls ++ [x]) u W := ⟨l ++ [s], S, by rw [txs_append, hl, ← hs]; rfl⟩
def fmtL (ok : Bool) (vn rn : Nat) (f g : Nat → List UInt8) : List (List UInt8) := if ok = true then (List.range vn).map f ++ (List.range rn).map g else []
def vTx (lo up : Nat → Int) (op it : Nat → Bool) (co : Nat → Int) (i : Nat) : List UInt8 := varTx (i : Int) (lo i) (up i) (op i) (it i) (co i)
def rTx (nm : Nat → ByteArray) (gr ki bo : Nat → Int) (tn : Nat → Nat) (v cf : Nat → Nat → Int) (i : Nat) : List UInt8 := rowTx (nm i) (gr i) (ki i) (bo i) (tn i) (v i) (cf i)
theorem vld_row {vn rn : Nat} {lo up : Nat → Int} {op : Nat → Bool} {co : Nat → Int} {nm : Nat → ByteArray} {gr ki bo : Nat → Int} {tn : Nat → Nat} {v cf : Nat → Nat → Int} (h : vldB vn rn lo up op co nm gr ki bo tn v cf = true) (i : Nat) (hi : i < rn) : (nm i).size ≤ 1000 ∧ (0 ≤ ki i ∧ ki i ≤ 2) ∧ ∀ t, t < tn i → -4611686018427387904 ≤ cf i t ∧ cf i t ≤ 4611686018427387904 := by
  unfold vldB at h
  simp only [Bool.and_eq_true, decide_eq_true_eq] at h
  have hr := h.2 i hi
  unfold rowB nmB tmsB at hr
  simp only [Bool.and_eq_true, decide_eq_true_eq] at hr
  obtain ⟨⟨⟨⟨h1, h2⟩, h3⟩, h4⟩, h5⟩ := hr
  refine ⟨Nat.le_trans h4.2 (by decide), h1, fun t ht => ?_⟩
  have h6 := h5 t ht
  unfold tmOk inR at h6
  omega
set_option maxHeartbeats 8000000 in
theorem f_format (V0 : Option Addr) (vn vc : Nat) (R0 : Option Addr) (rn rc : Nat) (lo up : Nat → Int) (op it : Nat → Bool) (co : Nat → Int) (nm : Nat → ByteArray) (gr ki bo : Nat → Int) (TA : Nat → Option Addr) (tn tc : Nat → Nat) (v cf : Nat → Nat → Int) (w : World) (hV : Vs w V0 vn vc lo up op it co) (hR : Rs w R0 rn rc nm gr ki bo TA tn tc v cf) (hnm : ∀ j, j < rn → (nm j).size ≤ 9223372036854775807) (hvn : vn ≤ 100) (hrn : rn ≤ 100) (htn : ∀ i, i < rn → tn i ≤ 100) (ht : Tab w) :
    Calls Tryz.prog 15 #[.agg #[.slice V0 vn vc, .slice R0 rn rc]] w (RetLn w (fmtL (vldB vn rn lo up op co nm gr ki bo tn v cf) vn rn (vTx lo up op it co) (rTx nm gr ki bo tn v cf))) := by
  obtain ⟨ok, hok⟩ : ∃ b, b = vldB vn rn lo up op co nm gr ki bo tn v cf := ⟨_, rfl⟩
  have CO := hid (fun (W : World) (b : Below w.heap.size w W) => vvalidp V0 vn vc R0 rn rc lo up op it co nm gr ki bo TA tn tc v cf W (hV.keep b) (hR.keep b) hnm)
  rw [← hok] at CO ⊢
  have CV := hid (fun (i : Nat) (hi : i < vn) (W : World) (b : Below w.heap.size w W) => show Calls Tryz.prog 59 #[.int .i64 (i : Int), .agg #[.int .i64 (lo i), .int .i64 (up i), .bool (op i), .bool (it i), .int .i64 (co i)]] W (RetTx W (vTx lo up op it co i)) from f_var i (lo i) (up i) (op i) (it i) (co i) W (by omega) (hV.2.2.1 i hi).1 (hV.2.2.1 i hi).2.1 (hV.2.2.1 i hi).2.2 (ht.keep b))
  have CR := hid (fun (h : ok = true) (i : Nat) (hi : i < rn) (W : World) (b : Below w.heap.size w W) => show Calls Tryz.prog 60 #[.agg #[.string (nm i), .int .i64 (gr i), .int .i64 (ki i), .slice (TA i) (tn i) (tc i), .int .i64 (bo i)]] W (RetTx W (rTx nm gr ki bo tn v cf i)) from by
    obtain ⟨h1, h2, h3⟩ := vld_row (hok ▸ h) i hi
    exact f_row (nm i) (gr i) (ki i) (bo i) (TA i) (tn i) (tc i) (v i) (cf i) W h1 (hR.2.2.1 i hi).2.2.1 h2 (hR.2.2.1 i hi).2.1 ((hR.2.2.1 i hi).2.2.2.keep b) (Nat.le_trans (htn i hi) (by decide)) h3 (ht.keep b))
  obtain ⟨f, hf⟩ : ∃ f, f = vTx lo up op it co := ⟨_, rfl⟩
  obtain ⟨g, hg⟩ : ∃ g, g = rTx nm gr ki bo tn v cf := ⟨_, rfl⟩
  rw [← hf] at CV ⊢
  rw [← hg] at CR ⊢
  have v1 := hV.1
  have v2 := hV.2.1
  have r1 := hR.1
  have r2 := hR.2.1
  have HV := hid hV
  have HR := hid hR
  obtain ⟨W0, hW⟩ : ∃ W, W = w.alloc (.cells #[.slice V0 vn vc, .slice R0 rn rc] 25) := ⟨_, rfl⟩
  have B0 := bx_alloc (bx_refl w) (.cells #[.slice V0 vn vc, .slice R0 rn rc] 25)
  have KP := Blk.new w [.slice V0 vn vc, .slice R0 rn rc] 25
  change Blk (w.alloc (.cells #[.slice V0 vn vc, .slice R0 rn rc] 25)) _ _ _ at KP
  rw [← hW] at B0 KP
  obtain ⟨z0, z1⟩ := blk_two KP
  have BB := hid B0
  have HK := hid KP
  clear hV hR hnm htn ht hok hf hg B0 KP
  go_enter Tryz.func15, Tryz.ntmps15
  go_upto_region 1 with fail
  rw [← hW]
  clear hW
  go_wp2_with fail
  refine (CO.out _ BB.out).mono ?_
  rintro e W1 ⟨rfl, b⟩
  have B1 := hid (bx_call BB.out b)
  have K1 := hid (HK.out.keep b)
  clear b BB HK CO z0 z1
  obtain ⟨z0, z1⟩ := blk_two K1.out
  cases ok
  case false =>
    go_wp2_with fail
    go_ret
    exact ⟨_, _, rfl, by unfold fmtL; exact ln_nil B1.out⟩
  replace CR := hid (CR.out rfl)
  have S0 := hid (LnP.start W1)
  have z00 := cell_al (o := .cells #[] 9) z0
  go_wp2_with fail
  go_loopw [3, 15] (fun u i wr => ∃ j : Nat, j ≤ vn ∧ i = .int .i64 j ∧ Hid (LnP W1 W1.heap.size ((List.range j).map f) u wr)) (fun _ i _ => vn - (intOf i).toNat)
  case atStart => exact ⟨0, Nat.zero_le _, rfl, S0⟩
  case round =>
    clear S0 z0 z1 z00
    obtain ⟨j, hj, rfl, hz⟩ := hrel
    obtain ⟨l, S0, hl0⟩ := hz.out.ex
    have hS0 := hid S0
    have hL0 := hid hl0
    have hll : l.length = j := by
      have := congrArg List.length hl0
      simpa [txs] using this
    clear hz S0 hl0
    rcases Nat.lt_or_ge j vn with hlt | hge
    · obtain ⟨b, o, rfl, hb, hcell⟩ := HV.out.2.2.2 (by omega)
      obtain ⟨x0, x1, x2, x3, x4⟩ := hcell j hlt
      have BJ := bx_call B1.out hS0.out.bel
      have c0 := cell_bx x0 BJ
      have c1 := cell_bx x1 BJ
      have c2 := cell_bx x2 BJ
      have c3 := cell_bx x3 BJ
      have c4 := cell_bx x4 BJ
      clear hcell x0 x1 x2 x3 x4
      have BH := hid BJ
      clear BJ
      have CC := hid (CV.out j hlt)
      clear HV HR CV CR
      go_wp2_with fail
      refine (CC.out _ (bx_alloc BH.out _)).mono ?_
      rintro e' w' ⟨s, rfl, hs, hw⟩
      have S1 := hid (hS0.out.keep (bx_call (bx_alloc (bx_refl wr) _) hw))
      have HS := hid hs
      clear hw hs CC
      go_wp2_with (at_builtin
                   refine wp_app S1 [s] rfl (.tmp 20) (.tmp 24) rfl rfl rfl (by show l.length + 1 ≤ 1000000000; omega) ?_
                   intro v1 w1 S2 K2
                   clear K2)
      refine ⟨⟨j + 1, by omega, rfl, hid ?_⟩, by show vn - ((j : Int) + 1).toNat < vn - (j : Int).toNat; omega⟩
      rw [map_next]
      exact ln_step S2.out hL0.out HS.out
    · obtain rfl : vn = j := by omega
      have z1 := (blk_two (K1.out.keep hS0.out.bel)).2
      have z0 := (blk_two (K1.out.keep hS0.out.bel)).1
      have S3 := hid (show LnP W1 W1.heap.size ((List.range vn).map f ++ (List.range 0).map g) u3 wr from ⟨l, hS0.out, by rw [hL0.out]; simp⟩)
      clear hS0 hL0 CV
      go_wp2_with fail
      go_loopw [3, 30] (fun u i wr => ∃ j : Nat, j ≤ rn ∧ i = .int .i64 j ∧ Hid (LnP W1 W1.heap.size ((List.range vn).map f ++ (List.range j).map g) u wr)) (fun _ i _ => rn - (intOf i).toNat)
      case atStart => exact ⟨0, Nat.zero_le _, rfl, S3⟩
      case round =>
        clear S3 z0 z1
        obtain ⟨j, hj, rfl, hz⟩ := hrel
        obtain ⟨l, S0, hl0⟩ := hz.out.ex
        have hS0 := hid S0
        have hL0 := hid hl0
        have hll : l.length = vn + j := by
          have := congrArg List.length hl0
          simpa [txs] using this
        clear hz S0 hl0
        rcases Nat.lt_or_ge j rn with hlt | hge
        · obtain ⟨b, o, rfl, hb, hcell⟩ := HR.out.2.2.2 (by omega)
          obtain ⟨x0, x1, x2, x3, x4⟩ := hcell j hlt
          have BJ := bx_call B1.out hS0.out.bel
          have c0 := cell_bx x0 BJ
          have c1 := cell_bx x1 BJ
          have c2 := cell_bx x2 BJ
          have c3 := cell_bx x3 BJ
          have c4 := cell_bx x4 BJ
          clear hcell x0 x1 x2 x3 x4
          have BH := hid BJ
          clear BJ
          have CC := hid (CR.out j hlt)
          clear HV HR CR
          go_wp2_with fail
          refine (CC.out _ (bx_alloc BH.out _)).mono ?_
          rintro e' w' ⟨s, rfl, hs, hw⟩
          have S1 := hid (hS0.out.keep (bx_call (bx_alloc (bx_refl wr) _) hw))
          have HS := hid hs
          clear hw hs CC
          go_wp2_with (at_builtin
                       refine wp_app S1 [s] rfl (.tmp 34) (.tmp 37) rfl rfl rfl (by show l.length + 1 ≤ 1000000000; omega) ?_
                       intro v1 w1 S2 K2
                       clear K2)
          refine ⟨⟨j + 1, by omega, rfl, hid ?_⟩, by show rn - ((j : Int) + 1).toNat < rn - (j : Int).toNat; omega⟩
          rw [map_next, ← List.append_assoc]
          exact ln_step S2.out hL0.out HS.out
        · obtain rfl : rn = j := by omega
          have S4 := hid (show LnP w W1.heap.size ((List.range vn).map f ++ (List.range rn).map g) _ wr from LnP.from B1.out ⟨l, hS0.out, hL0.out⟩)
          clear hS0 hL0
          go_wp2_with fail
          go_ret
          exact ⟨_, _, rfl, S4.out⟩
end Go.Proofs.YtdbccidlnhjfhaaGreatDoor
