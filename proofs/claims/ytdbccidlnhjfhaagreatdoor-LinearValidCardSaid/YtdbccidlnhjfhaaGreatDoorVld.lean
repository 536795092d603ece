/- The law LinearValid. -/
import Derived.Test.YtdbccidlnhjfhaaGreatDoorImp
import Derived.Test.YtdbccidlnhjfhaaGreatDoorFmr
import Derived.Deep.DeepCutAuto
import Derived.BigQuiet
namespace Go.Proofs.YtdbccidlnhjfhaaGreatDoor
open Go.RowKit
set_option maxRecDepth 100000
def RetSf (w : World) (ls : List (List UInt8)) (e : Ending) (w' : World) : Prop := ∃ A c l, e = .returned (.slice A l.length c) ∧ Sf w' A l.length c (fun j => l.getD j ⟨#[]⟩) ∧ txs l = ls ∧ Below w.heap.size w w'
theorem RetLn.sf {w w' : World} {ls : List (List UInt8)} {e : Ending} (h : RetLn w ls e w') : RetSf w ls e w' := by
  obtain ⟨u, B, he, hl⟩ := h
  obtain ⟨l, s, ht⟩ := hl.ex
  obtain ⟨A, c, rfl, sf⟩ := sf_of s
  exact ⟨A, c, l, he, sf, ht, s.bel⟩
theorem lines_two {W : World} {ls : List (List UInt8)} {A B : Option Addr} {c d : Nat} {l m : List ByteArray} (h : Sf W A l.length c (fun j => l.getD j ⟨#[]⟩)) (hl : txs l = ls) (k : Sf W B m.length d (fun j => m.getD j ⟨#[]⟩)) (hm : txs m = ls) : Calls Tryz.prog 14 #[.slice A l.length c, .slice B m.length d] W (RetB W true) := by
  have t := l_lines A l.length c _ B m.length d _ W h k
  rw [lines_true (hl.trans hm.symm)] at t
  exact t
set_option maxHeartbeats 8000000 in
theorem linearValid_any (p : PD) (w : World) (h : Pw w p) (ht : Tab w) :
    Calls Tryz.prog 3 #[.agg #[.slice p.V0 p.vn p.vc, .slice p.R0 p.rn p.rc]] w (RetB w true) := by
  have TB := hid ht
  have CF := hid (fun (W : World) (B : Below w.heap.size w W) => (show Calls Tryz.prog 11 #[.agg #[.slice p.V0 p.vn p.vc, .slice p.R0 p.rn p.rc], .int .i64 6, .int .i64 6] W (RetB W (fewP p.vn p.rn p.nm p.tn 6 6)) from rfewp p.V0 p.vn p.vc p.R0 p.rn p.rc p.nm p.gr p.ki p.bo p.TA p.tn p.tc p.v p.cf 6 6 W (Nat.le_trans h.vs.1 h.vs.2.1) (h.rs.keep B) h.nms (by omega) (by omega)))
  have C1 := hid (fun (e1 : fewP p.vn p.rn p.nm p.tn 6 6 = true) (W : World) (B : Below w.heap.size w W) => d_valid (h := (h.keep B).pg (few68 e1).1))
  have C2 := hid (fun (W : World) (B : Below w.heap.size w W) => (show Calls Tryz.prog 13 #[.agg #[.slice p.V0 p.vn p.vc, .slice p.R0 p.rn p.rc]] W (RetB W p.okB) from rvalidp p.V0 p.vn p.vc p.R0 p.rn p.rc p.lo p.up p.op p.it p.co p.nm p.gr p.ki p.bo p.TA p.tn p.tc p.v p.cf W (h.vs.keep B) (h.rs.keep B) h.nms))
  have C3 := hid (fun (e1 : fewP p.vn p.rn p.nm p.tn 6 6 = true) (W : World) (B : Below w.heap.size w W) => (show Calls Tryz.prog 15 #[.agg #[.slice p.V0 p.vn p.vc, .slice p.R0 p.rn p.rc]] W (RetSf W (fmtL p.okB p.vn p.rn (vTx p.lo p.up p.op p.it p.co) (rTx p.nm p.gr p.ki p.bo p.tn p.v p.cf))) from by
    have g := (h.keep B).pg (few68 e1).1
    exact (f_format p.V0 p.vn p.vc p.R0 p.rn p.rc p.lo p.up p.op p.it p.co p.nm p.gr p.ki p.bo p.TA p.tn p.tc p.v p.cf W g.vs g.rs h.nms g.vl g.rl g.tl (ht.keep B)).mono fun _ _ r => r.sf))
  have C4 := hid (fun (e1 : fewP p.vn p.rn p.nm p.tn 6 6 = true) (W : World) (B : Below w.heap.size w W) => (show Calls Tryz.prog 16 #[.agg #[.slice p.V0 p.vn p.vc, .slice p.R0 p.rn p.rc]] W (RetSf W (fmtL p.okB p.vn p.rn (vTx p.lo p.up p.op p.it p.co) (rTx p.nm p.gr p.ki p.bo p.tn p.v p.cf))) from by
    have g := (h.keep B).pg (few68 e1).1
    exact (r_format p.V0 p.vn p.vc p.R0 p.rn p.rc p.lo p.up p.op p.it p.co p.nm p.gr p.ki p.bo p.TA p.tn p.tc p.v p.cf W g.vs g.rs h.nms g.tl (by have := g.vl; omega) (by have := g.rl; omega)).mono fun _ _ r => r.sf))
  obtain ⟨s1, hs1⟩ : ∃ s, s = fewP p.vn p.rn p.nm p.tn 6 6 := ⟨_, rfl⟩
  rw [← hs1] at CF C1 C3 C4
  obtain ⟨bo9, hbo⟩ : ∃ s, s = p.okB := ⟨_, rfl⟩
  rw [← hbo] at C1 C2
  obtain ⟨ls, hls⟩ : ∃ s, s = fmtL p.okB p.vn p.rn (vTx p.lo p.up p.op p.it p.co) (rTx p.nm p.gr p.ki p.bo p.tn p.v p.cf) := ⟨_, rfl⟩
  rw [← hls] at C3 C4
  clear hs1 hbo hls h ht
  obtain ⟨V0, vn, vc, lo, up, op, it, co, R0, rn, rc, nm, gr, ki, bo, PTA, ptn, ptc, pv, pcf⟩ := p
  dsimp only at CF C1 C2 C3 C4 ⊢
  obtain ⟨W0, hW⟩ : ∃ W, W = w.alloc (.cells #[.slice V0 vn vc, .slice R0 rn rc] 25) := ⟨_, rfl⟩
  have B0 := bx_alloc (bx_refl w) (.cells #[.slice V0 vn vc, .slice R0 rn rc] 25)
  have K0 := Blk.new w [.slice V0 vn vc, .slice R0 rn rc] 25
  change Blk (w.alloc (.cells #[.slice V0 vn vc, .slice R0 rn rc] 25)) _ _ _ at K0
  rw [← hW] at B0 K0
  have P0 := hid (show Kp w V0 vn vc R0 rn rc W0 from ⟨B0, K0⟩)
  clear B0 K0
  go_enter Tryz.func3, Tryz.ntmps3
  go_upto_region 1 with fail
  rw [← hW]
  clear hW
  go_wp2_with fail
  refine (awk4 W0 (TB.out.keep P0.out.bel)).mono ?_
  rintro e W1 ⟨rfl, b⟩
  have P1 := hid (P0.out.keep b)
  clear P0 b
  obtain ⟨z0, z1⟩ := blk_two P1.out.box
  go_wp2_with fail
  refine (CF.out _ P1.out.bel).mono ?_
  rintro e W2 ⟨rfl, b⟩
  have M := hid (P1.out.keep b)
  clear P1 b z0 z1 CF
  cases s1
  · clear C1 C2 C3 C4
    go_wp2_with fail
    refine (awk4 W2 (TB.out.keep M.out.bel)).mono ?_
    rintro e W3 ⟨rfl, b⟩
    have P4 := hid (M.out.keep b)
    clear M b
    go_wp2_with fail
    go_ret
    exact vld_yes rfl P4.out.bel
  replace C1 := hid (C1.out rfl)
  replace C3 := hid (C3.out rfl)
  replace C4 := hid (C4.out rfl)
  clear TB
  go_upto_region 3 with fail
  (try simp only [List.append_eq, List.cons_append, List.nil_append])
  refine wp_region_noPanic ?_
  refine wp_region_held_drew (S := (fun W => W.cell? ⟨w.heap.size, 0, none⟩ = some (.slice V0 vn vc) ∧ W.cell? ⟨w.heap.size, 1, none⟩ = some (.slice R0 rn rc))) (by kernel_rfl) ?_ (fun hH => ?_)
  exact blk_two (M.out.keep (bx_drew (bx_refl W2))).box
  have bd := bx_drew (bx_refl W2)
  obtain ⟨E0, hW0⟩ : ∃ W, W = W2.drew := ⟨_, rfl⟩
  rw [← hW0] at bd hH ⊢
  clear hW0
  replace M := hid (M.out.keep bd)
  clear bd
  refine tk 0 hH ?_
  (try simp only [Act.put, gy0, gy1, gy2])
  refine tk 2 hH ?_
  (try simp only [Act.put, gy0, gy1, gy2])
  refine wpAnyH_ready (rs := [1]) (by kernel_rfl) (by simp) ?_
  refine rdy (fun K hK => ?_) AllReadyH.nil
  go_simp
  refine (C1.out _ M.out.bel).mono ?_
  rintro e wc ⟨rfl, b⟩
  replace M := hid (M.out.keep b)
  clear b hH
  (try go_wp2_with fail)
  refine hK.out _ _ ?_ (fun hH => ?_)
  exact blk_two M.out.box
  clear hK K
  (try simp only [Act.put, gy0, gy1, gy2])
  refine wpAnyH_ready (rs := [3]) (by kernel_rfl) (by simp) ?_
  refine rdy (fun K hK => ?_) AllReadyH.nil
  go_simp
  refine (C2.out _ M.out.bel).mono ?_
  rintro e wc ⟨rfl, b⟩
  replace M := hid (M.out.keep b)
  have tb9 : (bo9 == bo9) = true := by simp
  clear b hH
  (try go_wp2_with fail)
  refine hK.out _ _ ?_ (fun hH => ?_)
  exact blk_two M.out.box
  clear hK K
  (try simp only [Act.put, gy0, gy1, gy2])
  refine tk 4 hH ?_
  (try simp only [Act.put, gy0, gy1, gy2])
  refine tk 5 hH ?_
  (try simp only [Act.put, gy0, gy1, gy2])
  refine tk 6 hH ?_
  (try simp only [Act.put, gy0, gy1, gy2])
  refine tk 8 hH ?_
  (try simp only [Act.put, gy0, gy1, gy2])
  refine wpAnyH_ready (rs := [7]) (by kernel_rfl) (by simp) ?_
  refine rdy (fun K hK => ?_) AllReadyH.nil
  go_simp
  refine (C3.out _ M.out.bel).mono ?_
  rintro e wc ⟨LA, Lc, l, rfl, sf, hl, b⟩
  replace M := hid (M.out.keep b)
  have I1 := hid sf
  have J1 := hid hl
  clear sf hl b hH
  (try go_wp2_with fail)
  refine hK.out _ _ ?_ (fun hH => ?_)
  exact blk_two M.out.box
  clear hK K
  (try simp only [Act.put, gy0, gy1, gy2])
  refine wpAnyH_ready (rs := [9]) (by kernel_rfl) (by simp) ?_
  refine rdy (fun K hK => ?_) AllReadyH.nil
  go_simp
  refine (C4.out _ M.out.bel).mono ?_
  rintro e wc ⟨LB, Ld, m, rfl, sf, hm, b⟩
  replace M := hid (M.out.keep b)
  replace I1 := hid (Sf.keep I1.out b)
  have I2 := hid sf
  have J2 := hid hm
  clear sf hm b hH
  (try go_wp2_with fail)
  refine hK.out _ _ ?_ (fun hH => ?_)
  exact blk_two M.out.box
  clear hK K
  (try simp only [Act.put, gy0, gy1, gy2])
  refine wpAnyH_ready (rs := [10]) (by kernel_rfl) (by simp) ?_
  refine rdy (fun K hK => ?_) AllReadyH.nil
  go_simp
  refine (lines_two I1.out J1.out I2.out J2.out).mono ?_
  rintro e wc ⟨rfl, b⟩
  replace M := hid (M.out.keep b)
  clear b hH I1 I2 J1 J2
  (try go_wp2_with fail)
  refine hK.out _ _ ?_ (fun hH => ?_)
  exact blk_two M.out.box
  clear hK K
  (try simp only [Act.put, gy0, gy1, gy2])
  refine tk 11 hH ?_
  (try simp only [Act.put, gy0, gy1, gy2])
  refine tk 12 hH ?_
  (try simp only [Act.put, gy0, gy1, gy2])
  refine wpAnyH_done (by kernel_rfl) ?_ _
  refine NoPanic.normal ?_
  clear hH
  have BF := hid M.out.bel
  clear M C1 C2 C3 C4
  go_wp2_with fail
  go_ret
  exact vld_yes (by simp) BF.out
end Go.Proofs.YtdbccidlnhjfhaaGreatDoor
