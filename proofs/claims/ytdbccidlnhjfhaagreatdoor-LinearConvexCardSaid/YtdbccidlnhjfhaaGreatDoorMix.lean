/- The closure of LinearConvex. -/
import Derived.Test.YtdbccidlnhjfhaaGreatDoorLinL
import Derived.Test.YtdbccidlnhjfhaaGreatDoorDrf
import Derived.Deep.DeepCutAuto
import Derived.BigQuiet
namespace Go.Proofs.YtdbccidlnhjfhaaGreatDoor
open Go.RowKit
set_option maxRecDepth 100000
structure Mx (w : World) (ab : Nat) (ga : Bool) (Aa : Option Addr) (na ca : Nat) (Da : Option Addr) (ma da : Nat) (bb : Nat) (gb : Bool) (Ab : Option Addr) (nb cb : Nat) (Db : Option Addr) (mb db : Nat) (sb : Nat) (gs : Bool) (As : Option Addr) (ns cs : Nat) (Ds : Option Addr) (ms ds : Nat) (tb : Nat) (gt : Bool) (At : Option Addr) (nt ct : Nat) (Dt : Option Addr) (mt dt : Nat) (rb : Nat) (k : Nat) (a b s t : Rat) (W : World) : Prop where
  bel : Below w.heap.size w W
  ka : Blk W ab [.bool ga, .slice Aa na ca, .slice Da ma da] 41
  kb : Blk W bb [.bool gb, .slice Ab nb cb, .slice Db mb db] 41
  ks : Blk W sb [.bool gs, .slice As ns cs, .slice Ds ms ds] 41
  kt : Blk W tb [.bool gt, .slice At nt ct, .slice Dt mt dt] 41
  kr : Blk W rb [.bool false, .slice none 0 0, .slice none 0 0] 41
  fa : FrV W ga Aa na ca Da ma da k a
  fb : FrV W gb Ab nb cb Db mb db k b
  fs : FrV W gs As ns cs Ds ms ds k s
  ft : FrV W gt At nt ct Dt mt dt k t
section
variable {w W W' : World} {ab : Nat} {ga : Bool} {Aa : Option Addr} {na ca : Nat} {Da : Option Addr} {ma da : Nat} {bb : Nat} {gb : Bool} {Ab : Option Addr} {nb cb : Nat} {Db : Option Addr} {mb db : Nat} {sb : Nat} {gs : Bool} {As : Option Addr} {ns cs : Nat} {Ds : Option Addr} {ms ds : Nat} {tb : Nat} {gt : Bool} {At : Option Addr} {nt ct : Nat} {Dt : Option Addr} {mt dt : Nat} {rb : Nat} {k : Nat} {a b s t : Rat}
theorem Mx.keep (h : Mx w ab ga Aa na ca Da ma da bb gb Ab nb cb Db mb db sb gs As ns cs Ds ms ds tb gt At nt ct Dt mt dt rb k a b s t W) (e : Below W.heap.size W W') : Mx w ab ga Aa na ca Da ma da bb gb Ab nb cb Db mb db sb gs As ns cs Ds ms ds tb gt At nt ct Dt mt dt rb k a b s t W' := ⟨bx_call h.bel e, h.ka.keep e, h.kb.keep e, h.ks.keep e, h.kt.keep e, h.kr.keep e, h.fa.keep e, h.fb.keep e, h.fs.keep e, h.ft.keep e⟩
theorem Mx.all (h : Mx w ab ga Aa na ca Da ma da bb gb Ab nb cb Db mb db sb gs As ns cs Ds ms ds tb gt At nt ct Dt mt dt rb k a b s t W) : (W.cell? ⟨ab, 0, none⟩ = some (.bool ga) ∧ W.cell? ⟨ab, 1, none⟩ = some (.slice Aa na ca) ∧ W.cell? ⟨ab, 2, none⟩ = some (.slice Da ma da)) ∧ (W.cell? ⟨bb, 0, none⟩ = some (.bool gb) ∧ W.cell? ⟨bb, 1, none⟩ = some (.slice Ab nb cb) ∧ W.cell? ⟨bb, 2, none⟩ = some (.slice Db mb db)) ∧ (W.cell? ⟨sb, 0, none⟩ = some (.bool gs) ∧ W.cell? ⟨sb, 1, none⟩ = some (.slice As ns cs) ∧ W.cell? ⟨sb, 2, none⟩ = some (.slice Ds ms ds)) ∧ (W.cell? ⟨tb, 0, none⟩ = some (.bool gt) ∧ W.cell? ⟨tb, 1, none⟩ = some (.slice At nt ct) ∧ W.cell? ⟨tb, 2, none⟩ = some (.slice Dt mt dt)) := ⟨blk_three h.ka, blk_three h.kb, blk_three h.ks, blk_three h.kt⟩
end
theorem three_far {W : World} {b g : Nat} {x y z : Value} {t : TypeId} (h : Blk W b [x, y, z] t) (n : b ≠ g) (u v u2 : Value) : ((((W.setCell ⟨g, 0, none⟩ u).setCell ⟨g, 1, none⟩ v).setCell ⟨g, 2, none⟩ u2).cell? ⟨b, 0, none⟩ = some x) ∧ ((((W.setCell ⟨g, 0, none⟩ u).setCell ⟨g, 1, none⟩ v).setCell ⟨g, 2, none⟩ u2).cell? ⟨b, 1, none⟩ = some y) ∧ ((((W.setCell ⟨g, 0, none⟩ u).setCell ⟨g, 1, none⟩ v).setCell ⟨g, 2, none⟩ u2).cell? ⟨b, 2, none⟩ = some z) := blk_three (((h.far n u).far n v).far n u2)
set_option maxHeartbeats 4000000 in
theorem v_mix (ab : Nat) (ga : Bool) (Aa : Option Addr) (na ca : Nat) (Da : Option Addr) (ma da : Nat) (bb : Nat) (gb : Bool) (Ab : Option Addr) (nb cb : Nat) (Db : Option Addr) (mb db : Nat) (gs : Bool) (As : Option Addr) (ns cs : Nat) (Ds : Option Addr) (ms ds : Nat) (gt : Bool) (At : Option Addr) (nt ct : Nat) (Dt : Option Addr) (mt dt : Nat) (k : Nat) (a b s t : Rat) (w : World) (ka : Blk w ab [.bool ga, .slice Aa na ca, .slice Da ma da] 41) (kb : Blk w bb [.bool gb, .slice Ab nb cb, .slice Db mb db] 41) (fa : FrV w ga Aa na ca Da ma da k a) (fb : FrV w gb Ab nb cb Db mb db k b) (fs : FrV w gs As ns cs Ds ms ds k s) (ft : FrV w gt At nt ct Dt mt dt k t) (hk : k ≤ 1000000) :
    Calls Tryz.prog 52 #[.agg #[.bool gs, .slice As ns cs, .slice Ds ms ds], .agg #[.bool gt, .slice At nt ct, .slice Dt mt dt], .pointer (some ⟨ab, 0, none⟩), .pointer (some ⟨bb, 0, none⟩)] w (RetV w (a * s + b * t) (4 * k + 1)) := by
  obtain ⟨U1, sb, e1, p1, b1, q1⟩ := mk_cells w [.bool gs, .slice As ns cs, .slice Ds ms ds] 41
  obtain ⟨U2, tb, e2, p2, b2, q2⟩ := mk_cells U1 [.bool gt, .slice At nt ct, .slice Dt mt dt] 41
  obtain ⟨U3, rb, e3, p3, b3, q3⟩ := mk_cells U2 [.bool false, .slice none 0 0, .slice none 0 0] 41
  simp only [List.toArray] at e1 e2 e3
  have h2 : sb + 1 = tb := by rw [p1, p2, e1]; simp
  have h3 : tb + 1 = rb := by rw [p2, p3, e2]; simp
  have z12 := bx_call b1 b2
  have z := bx_call z12 b3
  have l1 := b1.size
  have l2 := b2.size
  have l3 := ka.lt
  have l4 := kb.lt
  have l5 := q1.lt
  have l6 := q2.lt
  have M0 := hid (show Mx w ab ga Aa na ca Da ma da bb gb Ab nb cb Db mb db sb gs As ns cs Ds ms ds tb gt At nt ct Dt mt dt rb k a b s t U3 from ⟨z, ka.keep z, kb.keep z, (q1.keep b2).keep b3, q2.keep b3, q3, fa.keep z, fb.keep z, fs.keep z, ft.keep z⟩)
  have hr : w.heap.size ≤ rb := by omega
  have n1 : ab ≠ rb := by omega
  have n2 : bb ≠ rb := by omega
  have n3 : sb ≠ rb := by omega
  have n4 : tb ≠ rb := by omega
  clear b1 b2 b3 q1 q2 q3 z12 z l1 l2 l3 l4 l5 l6 ka kb fa fb fs ft
  go_enter Tryz.func52, Tryz.ntmps52
  go_upto_region 1 with fail
  rw [← e1, ← e2, ← e3, ← p1, h2, h3]
  clear e1 p1 e2 p2 e3 p3 h2 h3
  (try simp only [List.append_eq, List.cons_append, List.nil_append])
  refine wp_region_noPanic ?_
  refine wp_region_held_drew (S := (fun W => (W.cell? ⟨ab, 0, none⟩ = some (.bool ga) ∧ W.cell? ⟨ab, 1, none⟩ = some (.slice Aa na ca) ∧ W.cell? ⟨ab, 2, none⟩ = some (.slice Da ma da)) ∧ (W.cell? ⟨bb, 0, none⟩ = some (.bool gb) ∧ W.cell? ⟨bb, 1, none⟩ = some (.slice Ab nb cb) ∧ W.cell? ⟨bb, 2, none⟩ = some (.slice Db mb db)) ∧ (W.cell? ⟨sb, 0, none⟩ = some (.bool gs) ∧ W.cell? ⟨sb, 1, none⟩ = some (.slice As ns cs) ∧ W.cell? ⟨sb, 2, none⟩ = some (.slice Ds ms ds)) ∧ (W.cell? ⟨tb, 0, none⟩ = some (.bool gt) ∧ W.cell? ⟨tb, 1, none⟩ = some (.slice At nt ct) ∧ W.cell? ⟨tb, 2, none⟩ = some (.slice Dt mt dt)))) (by kernel_rfl) ?_ (fun hH => ?_)
  exact (M0.out.keep (bx_drew (bx_refl U3))).all
  have bd := bx_drew (bx_refl U3)
  obtain ⟨E0, hW0⟩ : ∃ W, W = U3.drew := ⟨_, rfl⟩
  rw [← hW0] at bd hH ⊢
  clear hW0
  have M1 := hid (M0.out.keep bd)
  clear bd M0
  refine tk 0 hH ?_
  (try simp only [Act.put, gy0, gy1, gy2])
  refine tk 1 hH ?_
  (try simp only [Act.put, gy0, gy1, gy2])
  refine tk 3 hH ?_
  (try simp only [Act.put, gy0, gy1, gy2])
  refine tk 4 hH ?_
  (try simp only [Act.put, gy0, gy1, gy2])
  refine wpAnyH_ready (rs := [2]) (by kernel_rfl) (by simp) ?_
  refine rdy (fun K hK => ?_) AllReadyH.nil
  go_simp
  refine (vrmul ga Aa na ca Da ma da gs As ns cs Ds ms ds k a s _ M1.out.fa M1.out.fs (by omega)).mono ?_
  rintro e v1 ⟨A1, o1, c1, D1, m1, d1, rfl, r, e9⟩
  have M2 := hid (M1.out.keep e9)
  have R1 := hid r
  clear r e9 hH M1
  (try go_wp2_with fail)
  refine hK.out _ _ ?_ (fun hH => ?_)
  exact M2.out.all
  clear hK K
  (try simp only [Act.put, gy0, gy1, gy2])
  refine wpAnyH_ready (rs := [5]) (by kernel_rfl) (by simp) ?_
  refine rdy (fun K hK => ?_) AllReadyH.nil
  go_simp
  refine (vrmul gb Ab nb cb Db mb db gt At nt ct Dt mt dt k b t _ M2.out.fb M2.out.ft (by omega)).mono ?_
  rintro e v2 ⟨A2, o2, c2, D2, m2, d2, rfl, r, e9⟩
  have M3 := hid (M2.out.keep e9)
  have R1b := hid (R1.out.keep e9)
  have R2 := hid r
  clear r e9 hH M2 R1
  (try go_wp2_with fail)
  refine hK.out _ _ ?_ (fun hH => ?_)
  exact M3.out.all
  clear hK K
  (try simp only [Act.put, gy0, gy1, gy2])
  refine wpAnyH_ready (rs := [6]) (by kernel_rfl) (by simp) ?_
  refine rdy (fun K hK => ?_) AllReadyH.nil
  go_simp
  refine (vradd _ A1 o1 c1 D1 m1 d1 _ A2 o2 c2 D2 m2 d2 (k + k) (a * s) (b * t) _ R1b.out.v R2.out.v (by omega)).mono ?_
  rintro e v3 ⟨A3, o3, c3, D3, m3, d3, rfl, r, e9⟩
  have M4 := hid (M3.out.keep e9)
  have R3 := hid (r.v.up (show k + k + (k + k) + 1 ≤ 4 * k + 1 by omega))
  obtain ⟨x0, x1, x2⟩ := blk_three M4.out.kr
  have f0 := Blk.free M4.out.kr 0
  have f1 := Blk.free M4.out.kr 1
  have f2 := Blk.free M4.out.kr 2
  clear r e9 hH M3 R1b R2
  (try go_wp2_with fail)
  refine hK.out _ _ ?_ (fun hH => ?_)
  exact M4.out.all
  clear hK K
  (try simp only [Act.put, gy0, gy1, gy2])
  refine wpAnyH_ready (rs := [7]) (by kernel_rfl) (by simp) ?_
  refine rdy (fun K hK => ?_) AllReadyH.nil
  go_simp
  clear hH
  refine hK.out _ _ ?_ (fun hH => ?_)
  exact ⟨three_far M4.out.ka n1 _ _ _, three_far M4.out.kb n2 _ _ _, three_far M4.out.ks n3 _ _ _, three_far M4.out.kt n4 _ _ _⟩
  clear hK K
  (try simp only [Act.put, gy0, gy1, gy2])
  refine wpAnyH_done (by kernel_rfl) ?_ _
  refine NoPanic.normal ?_
  clear hH
  have EE := hid (retv_end R3.out M4.out.kr M4.out.bel hr)
  clear R3 M4
  go_wp2_with fail
  exact bodyPost_ret (v := .agg #[.bool (sg (a * s + b * t).num), .slice A3 o3 c3, .slice D3 m3 d3]) (by simp [results, Tryz.results52, go_sem, x0, x1, x2]) rfl EE.out
end Go.Proofs.YtdbccidlnhjfhaaGreatDoor
