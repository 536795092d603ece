/- Same and SameRow of the specification. -/
import Derived.Test.YtdbccidlnhjfhaaGreatDoorCel
import Derived.Test.YtdbccidlnhjfhaaGreatDoorFmz
import Derived.Deep.DeepCutAuto
import Derived.BigQuiet
namespace Go.Proofs.YtdbccidlnhjfhaaGreatDoor
open Go.RowKit
set_option maxRecDepth 100000
structure Bx2 (w : World) (xs ys : List Value) (t : TypeId) (W : World) : Prop where
  bel : Below w.heap.size w W
  a : Blk W w.heap.size xs t
  b : Blk W (w.heap.size + 1) ys t
theorem Bx2.keep {w W W' : World} {xs ys : List Value} {t : TypeId} (h : Bx2 w xs ys t W) (e : Below W.heap.size W W') : Bx2 w xs ys t W' := ⟨bx_call h.bel e, h.a.keep e, h.b.keep e⟩
theorem Bx2.start (w : World) (xs ys : List Value) (t : TypeId) : Bx2 w xs ys t ((w.alloc (.cells xs.toArray t)).alloc (.cells ys.toArray t)) :=
  ⟨bx_alloc (bx_alloc (bx_refl w) _) _, (Blk.new w xs t).alloc _, blk_new1 w (.cells xs.toArray t) ys t⟩
set_option maxHeartbeats 4000000 in
theorem r_samerow (nm : ByteArray) (gr ki bo : Int) (A : Option Addr) (tn c : Nat) (B : Option Addr) (d : Nat) (v cf : Nat → Int) (w : World) (h : Ts w A tn c v cf) (k : Ts w B tn d v cf) :
    Calls Tryz.prog 95 #[.agg #[.string nm, .int .i64 gr, .int .i64 ki, .slice A tn c, .int .i64 bo], .agg #[.string nm, .int .i64 gr, .int .i64 ki, .slice B tn d, .int .i64 bo]] w (RetB w true) := by
  have h1 := h.1
  have h2 := h.2.1
  have HA := hid h
  have HB := hid k
  obtain ⟨W0, hW⟩ : ∃ W, W = (w.alloc (.cells #[.string nm, .int .i64 gr, .int .i64 ki, .slice A tn c, .int .i64 bo] 77)).alloc (.cells #[.string nm, .int .i64 gr, .int .i64 ki, .slice B tn d, .int .i64 bo] 77) := ⟨_, rfl⟩
  have M0 := hid (Bx2.start w [.string nm, .int .i64 gr, .int .i64 ki, .slice A tn c, .int .i64 bo] [.string nm, .int .i64 gr, .int .i64 ki, .slice B tn d, .int .i64 bo] 77)
  simp only [List.toArray] at M0
  rw [← hW] at M0
  clear h k
  go_enter Tryz.func95, Tryz.ntmps95
  go_upto_region 1 with fail
  rw [← hW]
  clear hW
  obtain ⟨x0, x1, x2, x3, x4⟩ := blk_fif M0.out.a
  obtain ⟨y0, y1, y2, y3, y4⟩ := blk_fif M0.out.b
  go_wp2_with fail
  clear x0 x1 x2 x3 x4 y0 y1 y2 y3 y4
  go_loopw [5] (fun i wr => ∃ j : Nat, j ≤ tn ∧ i = .int .i64 j ∧ Hid (Bx2 w [.string nm, .int .i64 gr, .int .i64 ki, .slice A tn c, .int .i64 bo] [.string nm, .int .i64 gr, .int .i64 ki, .slice B tn d, .int .i64 bo] 77 wr)) (fun i _ => tn - (intOf i).toNat)
  case atStart => exact ⟨0, Nat.zero_le _, rfl, M0⟩
  case round =>
    clear M0
    obtain ⟨j, hj, rfl, hz⟩ := hrel
    obtain ⟨x0, x1, x2, x3, x4⟩ := blk_fif hz.out.a
    rcases Nat.lt_or_ge j tn with hlt | hge
    · obtain ⟨b, o, rfl, hb, hcell⟩ := HA.out.2.2.2 (by omega)
      obtain ⟨b2, o2, rfl, hb2, hcell2⟩ := HB.out.2.2.2 (by omega)
      obtain ⟨p0, p1⟩ := hcell j hlt
      obtain ⟨q0, q1⟩ := hcell2 j hlt
      have e0 := cell_bx p0 hz.out.bel
      have e1 := cell_bx p1 hz.out.bel
      have f0 := cell_bx q0 hz.out.bel
      have f1 := cell_bx q1 hz.out.bel
      obtain ⟨y0, y1, y2, y3, y4⟩ := blk_fif hz.out.b
      obtain ⟨vj, hv⟩ : ∃ x, x = v j := ⟨_, rfl⟩
      obtain ⟨cj, hc⟩ : ∃ x, x = cf j := ⟨_, rfl⟩
      rw [← hv] at e0 f0
      rw [← hc] at e1 f1
      have M := hid hz.out
      clear hz hcell hcell2 p0 p1 q0 q1 HA HB hv hc
      go_upto_region 6 with fail
      clear x0 x1 x2 x4 y0 y1 y2 y4
      (try simp only [List.append_eq, List.cons_append, List.nil_append])
      refine wp_region_noPanic ?_
      refine wp_region_held_drew (S := (fun W => (W.cell? ⟨w.heap.size, 3, none⟩ = some (.slice (some ⟨b, o, none⟩) tn c) ∧ W.cell? ⟨w.heap.size + 1, 3, none⟩ = some (.slice (some ⟨b2, o2, none⟩) tn d)) ∧ (W.cell? ⟨b, o + j * 2, none⟩ = some (.int .i64 vj) ∧ W.cell? ⟨b, o + j * 2 + 1, none⟩ = some (.int .i64 cj)) ∧ (W.cell? ⟨b2, o2 + j * 2, none⟩ = some (.int .i64 vj) ∧ W.cell? ⟨b2, o2 + j * 2 + 1, none⟩ = some (.int .i64 cj)))) (by kernel_rfl) ?_ (fun hH => ?_)
      exact ⟨⟨cell_dr x3, cell_dr y3⟩, ⟨cell_dr e0, cell_dr e1⟩, ⟨cell_dr f0, cell_dr f1⟩⟩
      have bd := bx_drew (bx_refl wr)
      obtain ⟨E0, hW0⟩ : ∃ W, W = wr.drew := ⟨_, rfl⟩
      rw [← hW0] at bd hH ⊢
      clear hW0
      replace M := hid (M.out.keep bd)
      clear bd
      refine tk 0 hH ?_
      (try simp only [Act.put, gy0, gy1, gy2])
      refine tk 1 hH ?_
      (try simp only [Act.put, gy0, gy1, gy2])
      refine tk 2 hH ?_
      (try simp only [Act.put, gy0, gy1, gy2])
      refine tk 3 hH ?_
      (try simp only [Act.put, gy0, gy1, gy2])
      refine tk 4 hH ?_
      (try simp only [Act.put, gy0, gy1, gy2])
      refine tk 5 hH ?_
      (try simp only [Act.put, gy0, gy1, gy2])
      refine tk 6 hH ?_
      (try simp only [Act.put, gy0, gy1, gy2])
      refine tk 7 hH ?_
      (try simp only [Act.put, gy0, gy1, gy2])
      refine tk 8 hH ?_
      (try simp only [Act.put, gy0, gy1, gy2])
      refine tk 9 hH ?_
      (try simp only [Act.put, gy0, gy1, gy2])
      refine tk 10 hH ?_
      (try simp only [Act.put, gy0, gy1, gy2])
      refine wpAnyH_done (by kernel_rfl) ?_ _
      refine NoPanic.normal ?_
      clear hH
      have MM := hid M.out
      clear M
      go_wp2_with fail
      go_roundw
      case rel => exact ⟨j + 1, by omega, by go_num, MM⟩
      case measure => simp [intOf]; omega
    · obtain rfl : j = tn := by omega
      have BF := hid hz.out.bel
      clear hz HA HB
      go_wp2_with fail
      go_ret
      exact vld_yes rfl BF.out
set_option maxHeartbeats 8000000 in
theorem r_same (V0 : Option Addr) (vn vc : Nat) (R0 : Option Addr) (rn rc : Nat) (lo up : Nat → Int) (op it : Nat → Bool) (co : Nat → Int) (nm : Nat → ByteArray) (gr ki bo : Nat → Int) (TA : Nat → Option Addr) (tn tc : Nat → Nat) (v cf : Nat → Nat → Int) (V1 : Option Addr) (vd : Nat) (R1 : Option Addr) (rd : Nat) (TB : Nat → Option Addr) (td : Nat → Nat) (w : World)
    (hV : Vs w V0 vn vc lo up op it co) (hR : Rs w R0 rn rc nm gr ki bo TA tn tc v cf) (hV1 : Vs w V1 vn vd lo up op it co) (hR1 : Rs w R1 rn rd nm gr ki bo TB tn td v cf) :
    Calls Tryz.prog 47 #[.agg #[.slice V0 vn vc, .slice R0 rn rc], .agg #[.slice V1 vn vd, .slice R1 rn rd]] w (RetB w true) := by
  have h1 := hV.1
  have h2 := hV.2.1
  have h3 := hR.1
  have h4 := hR.2.1
  have HA := hid hV
  have HB := hid hV1
  have RA := hid hR
  have RB := hid hR1
  obtain ⟨W0, hW⟩ : ∃ W, W = (w.alloc (.cells #[.slice V0 vn vc, .slice R0 rn rc] 25)).alloc (.cells #[.slice V1 vn vd, .slice R1 rn rd] 25) := ⟨_, rfl⟩
  have M0 := hid (Bx2.start w [.slice V0 vn vc, .slice R0 rn rc] [.slice V1 vn vd, .slice R1 rn rd] 25)
  simp only [List.toArray] at M0
  rw [← hW] at M0
  clear hV hR hV1 hR1
  go_enter Tryz.func47, Tryz.ntmps47
  go_upto_region 1 with fail
  rw [← hW]
  clear hW
  obtain ⟨x0, x1⟩ := blk_two M0.out.a
  obtain ⟨y0, y1⟩ := blk_two M0.out.b
  go_wp2_with fail
  clear x0 x1 y0 y1
  go_loopw [5] (fun i wr => ∃ j : Nat, j ≤ vn ∧ i = .int .i64 j ∧ Hid (Bx2 w [.slice V0 vn vc, .slice R0 rn rc] [.slice V1 vn vd, .slice R1 rn rd] 25 wr)) (fun i _ => vn - (intOf i).toNat)
  case atStart => exact ⟨0, Nat.zero_le _, rfl, M0⟩
  case round =>
    clear M0
    obtain ⟨j, hj, rfl, hz⟩ := hrel
    rcases Nat.lt_or_ge j vn with hlt | hge
    · obtain ⟨b, o, rfl, hb, hcell⟩ := HA.out.2.2.2 (by omega)
      obtain ⟨b2, o2, rfl, hb2, hcell2⟩ := HB.out.2.2.2 (by omega)
      obtain ⟨x0, x1⟩ := blk_two hz.out.a
      obtain ⟨y0, y1⟩ := blk_two hz.out.b
      obtain ⟨p0, p1, p2, p3, p4⟩ := hcell j hlt
      obtain ⟨q0, q1, q2, q3, q4⟩ := hcell2 j hlt
      have e0 := cell_bx p0 hz.out.bel
      have e1 := cell_bx p1 hz.out.bel
      have e2 := cell_bx p2 hz.out.bel
      have e3 := cell_bx p3 hz.out.bel
      have e4 := cell_bx p4 hz.out.bel
      have f0 := cell_bx q0 hz.out.bel
      have f1 := cell_bx q1 hz.out.bel
      have f2 := cell_bx q2 hz.out.bel
      have f3 := cell_bx q3 hz.out.bel
      have f4 := cell_bx q4 hz.out.bel
      obtain ⟨lj, k0⟩ : ∃ x, x = lo j := ⟨_, rfl⟩
      obtain ⟨uj, k1⟩ : ∃ x, x = up j := ⟨_, rfl⟩
      obtain ⟨oj, k2⟩ : ∃ x, x = op j := ⟨_, rfl⟩
      obtain ⟨ij, k3⟩ : ∃ x, x = it j := ⟨_, rfl⟩
      obtain ⟨cj, k4⟩ : ∃ x, x = co j := ⟨_, rfl⟩
      rw [← k0] at e0 f0
      rw [← k1] at e1 f1
      rw [← k2] at e2 f2
      rw [← k3] at e3 f3
      rw [← k4] at e4 f4
      have M := hid hz.out
      clear hz hcell hcell2 p0 p1 p2 p3 p4 q0 q1 q2 q3 q4 HA HB RA RB k0 k1 k2 k3 k4
      go_upto_region 6 with fail
      (try simp only [List.append_eq, List.cons_append, List.nil_append])
      refine wp_region_noPanic ?_
      refine wp_region_held_drew (S := (fun W => (W.cell? ⟨w.heap.size, 0, none⟩ = some (.slice (some ⟨b, o, none⟩) vn vc) ∧ W.cell? ⟨w.heap.size + 1, 0, none⟩ = some (.slice (some ⟨b2, o2, none⟩) vn vd)) ∧ (W.cell? ⟨b, o + j * 5, none⟩ = some (.int .i64 lj) ∧ W.cell? ⟨b, o + j * 5 + 1, none⟩ = some (.int .i64 uj) ∧ W.cell? ⟨b, o + j * 5 + 2, none⟩ = some (.bool oj) ∧ W.cell? ⟨b, o + j * 5 + 3, none⟩ = some (.bool ij) ∧ W.cell? ⟨b, o + j * 5 + 4, none⟩ = some (.int .i64 cj)) ∧ (W.cell? ⟨b2, o2 + j * 5, none⟩ = some (.int .i64 lj) ∧ W.cell? ⟨b2, o2 + j * 5 + 1, none⟩ = some (.int .i64 uj) ∧ W.cell? ⟨b2, o2 + j * 5 + 2, none⟩ = some (.bool oj) ∧ W.cell? ⟨b2, o2 + j * 5 + 3, none⟩ = some (.bool ij) ∧ W.cell? ⟨b2, o2 + j * 5 + 4, none⟩ = some (.int .i64 cj)))) (by kernel_rfl) ?_ (fun hH => ?_)
      exact ⟨⟨cell_dr x0, cell_dr y0⟩, ⟨cell_dr e0, cell_dr e1, cell_dr e2, cell_dr e3, cell_dr e4⟩, ⟨cell_dr f0, cell_dr f1, cell_dr f2, cell_dr f3, cell_dr f4⟩⟩
      have bd := bx_drew (bx_refl wr)
      obtain ⟨E0, hW0⟩ : ∃ W, W = wr.drew := ⟨_, rfl⟩
      rw [← hW0] at bd hH ⊢
      clear hW0
      replace M := hid (M.out.keep bd)
      clear bd
      refine tk 0 hH ?_
      (try simp only [Act.put, gy0, gy1, gy2])
      refine tk 1 hH ?_
      (try simp only [Act.put, gy0, gy1, gy2])
      refine tk 2 hH ?_
      (try simp only [Act.put, gy0, gy1, gy2])
      refine tk 3 hH ?_
      (try simp only [Act.put, gy0, gy1, gy2])
      refine tk 4 hH ?_
      (try simp only [Act.put, gy0, gy1, gy2])
      refine tk 5 hH ?_
      (try simp only [Act.put, gy0, gy1, gy2])
      refine tk 6 hH ?_
      (try simp only [Act.put, gy0, gy1, gy2])
      refine tk 7 hH ?_
      (try simp only [Act.put, gy0, gy1, gy2])
      refine tk 8 hH ?_
      (try simp only [Act.put, gy0, gy1, gy2])
      refine tk 9 hH ?_
      (try simp only [Act.put, gy0, gy1, gy2])
      refine tk 10 hH ?_
      (try simp only [Act.put, gy0, gy1, gy2])
      refine wpAnyH_done (by kernel_rfl) ?_ _
      refine NoPanic.normal ?_
      clear hH
      have MM := hid M.out
      clear M
      go_wp2_with fail
      go_roundw
      case rel => exact ⟨j + 1, by omega, by go_num, MM⟩
      case measure => simp [intOf]; omega
    · obtain rfl : j = vn := by omega
      obtain ⟨x0, x1⟩ := blk_two hz.out.a
      have M1 := hid hz.out
      clear hz HA HB
      go_wp2_with fail
      clear x0 x1
      go_loopw [6] (fun i wr => ∃ i9 : Nat, i9 ≤ rn ∧ i = .int .i64 i9 ∧ Hid (Bx2 w [.slice V0 j vc, .slice R0 rn rc] [.slice V1 j vd, .slice R1 rn rd] 25 wr)) (fun i _ => rn - (intOf i).toNat)
      case atStart => exact ⟨0, Nat.zero_le _, rfl, M1⟩
      case round =>
        clear M1
        obtain ⟨i, hi, rfl, hz⟩ := hrel
        rcases Nat.lt_or_ge i rn with hlt | hge
        · have TS := (RA.out.2.2.1 i hlt).2.2.2
          have TS2 := (RB.out.2.2.1 i hlt).2.2.2
          obtain ⟨b, o, rfl, hb, hcell⟩ := RA.out.2.2.2 (by omega)
          obtain ⟨b2, o2, rfl, hb2, hcell2⟩ := RB.out.2.2.2 (by omega)
          obtain ⟨x0, x1⟩ := blk_two hz.out.a
          obtain ⟨y0, y1⟩ := blk_two hz.out.b
          obtain ⟨p0, p1, p2, p3, p4⟩ := hcell i hlt
          obtain ⟨q0, q1, q2, q3, q4⟩ := hcell2 i hlt
          have e0 := cell_bx p0 hz.out.bel
          have e1 := cell_bx p1 hz.out.bel
          have e2 := cell_bx p2 hz.out.bel
          have e3 := cell_bx p3 hz.out.bel
          have e4 := cell_bx p4 hz.out.bel
          have f0 := cell_bx q0 hz.out.bel
          have f1 := cell_bx q1 hz.out.bel
          have f2 := cell_bx q2 hz.out.bel
          have f3 := cell_bx q3 hz.out.bel
          have f4 := cell_bx q4 hz.out.bel
          have CR := hid (fun (W : World) (B : Below w.heap.size w W) => r_samerow (nm i) (gr i) (ki i) (bo i) (TA i) (tn i) (tc i) (TB i) (td i) (v i) (cf i) W (TS.keep B) (TS2.keep B))
          have M := hid hz.out
          clear hz hcell hcell2 p0 p1 p2 p3 p4 q0 q1 q2 q3 q4 RA RB TS TS2
          go_upto_region 11 with fail
          (try simp only [List.append_eq, List.cons_append, List.nil_append])
          refine wp_region_noPanic ?_
          refine wp_region_held_drew (S := (fun W => (W.cell? ⟨w.heap.size, 1, none⟩ = some (.slice (some ⟨b, o, none⟩) rn rc) ∧ W.cell? ⟨w.heap.size + 1, 1, none⟩ = some (.slice (some ⟨b2, o2, none⟩) rn rd)) ∧ (W.cell? ⟨b, o + i * 5, none⟩ = some (.string (nm i)) ∧ W.cell? ⟨b, o + i * 5 + 1, none⟩ = some (.int .i64 (gr i)) ∧ W.cell? ⟨b, o + i * 5 + 2, none⟩ = some (.int .i64 (ki i)) ∧ W.cell? ⟨b, o + i * 5 + 3, none⟩ = some (.slice (TA i) (tn i) (tc i)) ∧ W.cell? ⟨b, o + i * 5 + 4, none⟩ = some (.int .i64 (bo i))) ∧ (W.cell? ⟨b2, o2 + i * 5, none⟩ = some (.string (nm i)) ∧ W.cell? ⟨b2, o2 + i * 5 + 1, none⟩ = some (.int .i64 (gr i)) ∧ W.cell? ⟨b2, o2 + i * 5 + 2, none⟩ = some (.int .i64 (ki i)) ∧ W.cell? ⟨b2, o2 + i * 5 + 3, none⟩ = some (.slice (TB i) (tn i) (td i)) ∧ W.cell? ⟨b2, o2 + i * 5 + 4, none⟩ = some (.int .i64 (bo i))))) (by kernel_rfl) ?_ (fun hH => ?_)
          exact ⟨⟨cell_dr x1, cell_dr y1⟩, ⟨cell_dr e0, cell_dr e1, cell_dr e2, cell_dr e3, cell_dr e4⟩, ⟨cell_dr f0, cell_dr f1, cell_dr f2, cell_dr f3, cell_dr f4⟩⟩
          have bd := bx_drew (bx_refl wr)
          obtain ⟨E0, hW0⟩ : ∃ W, W = wr.drew := ⟨_, rfl⟩
          rw [← hW0] at bd hH ⊢
          clear hW0
          replace M := hid (M.out.keep bd)
          replace x1 := cell_bx x1 bd
          replace y1 := cell_bx y1 bd
          replace e0 := cell_bx e0 bd
          replace e1 := cell_bx e1 bd
          replace e2 := cell_bx e2 bd
          replace e3 := cell_bx e3 bd
          replace e4 := cell_bx e4 bd
          replace f0 := cell_bx f0 bd
          replace f1 := cell_bx f1 bd
          replace f2 := cell_bx f2 bd
          replace f3 := cell_bx f3 bd
          replace f4 := cell_bx f4 bd
          clear bd
          refine tk 0 hH ?_
          (try simp only [Act.put, gy0, gy1, gy2])
          refine tk 1 hH ?_
          (try simp only [Act.put, gy0, gy1, gy2])
          refine tk 2 hH ?_
          (try simp only [Act.put, gy0, gy1, gy2])
          refine tk 3 hH ?_
          (try simp only [Act.put, gy0, gy1, gy2])
          refine tk 4 hH ?_
          (try simp only [Act.put, gy0, gy1, gy2])
          refine tk 5 hH ?_
          (try simp only [Act.put, gy0, gy1, gy2])
          refine tk 6 hH ?_
          (try simp only [Act.put, gy0, gy1, gy2])
          refine tk 7 hH ?_
          (try simp only [Act.put, gy0, gy1, gy2])
          refine tk 8 hH ?_
          (try simp only [Act.put, gy0, gy1, gy2])
          refine tk 9 hH ?_
          (try simp only [Act.put, gy0, gy1, gy2])
          refine wpAnyH_ready (rs := [10]) (by kernel_rfl) (by simp) ?_
          refine rdy (fun K hK => ?_) AllReadyH.nil
          go_simp
          refine (CR.out _ M.out.bel).mono ?_
          rintro e wc ⟨rfl, b9⟩
          replace M := hid (M.out.keep b9)
          have g1 := cell_bx x1 b9
          have g2 := cell_bx y1 b9
          have h09 := cell_bx e0 b9
          have h19 := cell_bx e1 b9
          have h29 := cell_bx e2 b9
          have h39 := cell_bx e3 b9
          have h49 := cell_bx e4 b9
          have l09 := cell_bx f0 b9
          have l19 := cell_bx f1 b9
          have l29 := cell_bx f2 b9
          have l39 := cell_bx f3 b9
          have l49 := cell_bx f4 b9
          clear b9 hH
          (try go_wp2_with fail)
          refine hK.out _ _ ?_ (fun hH => ?_)
          exact ⟨⟨g1, g2⟩, ⟨h09, h19, h29, h39, h49⟩, ⟨l09, l19, l29, l39, l49⟩⟩
          clear hK K
          (try simp only [Act.put, gy0, gy1, gy2])
          refine tk 11 hH ?_
          (try simp only [Act.put, gy0, gy1, gy2])
          refine wpAnyH_done (by kernel_rfl) ?_ _
          refine NoPanic.normal ?_
          clear hH
          have MM := hid M.out
          clear M CR
          go_wp2_with fail
          go_roundw
          case rel => exact ⟨i + 1, by omega, by go_num, MM⟩
          case measure => simp [intOf]; omega
        · obtain rfl : i = rn := by omega
          obtain ⟨x0, x1⟩ := blk_two hz.out.a
          have BF := hid hz.out.bel
          clear hz RA RB
          go_wp2_with fail
          go_ret
          exact vld_yes rfl BF.out
end Go.Proofs.YtdbccidlnhjfhaaGreatDoor
