/- Without. -/
import Derived.Test.YtdbccidlnhjfhaaGreatDoorClo
import Derived.Deep.DeepCutAuto
import Derived.BigQuiet
namespace Go.Proofs.YtdbccidlnhjfhaaGreatDoor
open Go.RowKit
set_option maxRecDepth 100000
structure WdP (nm : Nat → ByteArray) (gr ki bo : Nat → Int) (tn : Nat → Nat) (v cf : Nat → Nat → Int) (W4 : World) (K : List Nat) (u : Value) (W : World) : Prop where
  ex : ∃ L : List (Nat × Option Addr × Nat), L.map (·.1) = K ∧ OwP W4 W4.heap.size 77 5 u L.length (rowsC nm gr ki bo tn L) W ∧ ∀ x ∈ L, TsT W x.2.1 (tn x.1) x.2.2 (v x.1) (cf x.1)
section
variable {nm : Nat → ByteArray} {gr ki bo : Nat → Int} {tn : Nat → Nat} {v cf : Nat → Nat → Int} {W4 : World} {K : List Nat} {u : Value} {W W' : World}
theorem WdP.bel (h : WdP nm gr ki bo tn v cf W4 K u W) : Below W4.heap.size W4 W := by
  obtain ⟨L, _, h, _⟩ := h
  exact h.bel
theorem WdP.keep (h : WdP nm gr ki bo tn v cf W4 K u W) (b : Below W.heap.size W W') : WdP nm gr ki bo tn v cf W4 K u W' := by
  obtain ⟨L, h1, h2, h3⟩ := h
  exact ⟨L, h1, h2.keep b, fun x hx => (h3 x hx).keep b⟩
theorem WdP.far {g i : Nat} {cs : List Value} (h : WdP nm gr ki bo tn v cf W4 K u W) (hB : Blk W g cs 77) (hu : u.ownBlock ≠ some g) (hg : W4.heap.size ≤ g) (y : Value) : WdP nm gr ki bo tn v cf W4 K u (W.setCell ⟨g, i, none⟩ y) := by
  obtain ⟨L, h1, h2, h3⟩ := h
  exact ⟨L, h1, ⟨bx_set h2.bel hg, ownsRow_setCell_other h2.own (by exact hu) y, h2.ge, by have := h2.le; simpa using this⟩, fun x hx => (h3 x hx).far hB (by decide) y⟩
theorem wd_start (W4 : World) : WdP nm gr ki bo tn v cf W4 [] (.slice (some ⟨W4.heap.size, 0, none⟩) 0 0) (W4.alloc (.cells #[] 77)) :=
  ⟨[], rfl, ⟨bx_alloc (bx_refl W4) _, ⟨rfl, .inr ⟨W4.heap.size, 0, #[], rfl, Nat.le_refl _, heap_alloc_new W4 _, Nat.le_refl _, by unfold maxLen; omega, rfl, rfl⟩⟩, Nat.le_refl _, by simp⟩, fun x hx => by cases hx⟩
theorem wd_next {ty j : Nat} {A : Option Addr} {c g : Nat} (h : WdP nm gr ki bo tn v cf W4 K u W) (hl : K.length ≤ 1000000) (hg : Blk W g [.string (nm j), .int .i64 (gr j), .int .i64 (ki j), .slice A (tn j) c, .int .i64 (bo j)] 77) (hT : TsT W A (tn j) c (v j) (cf j)) :
    ∃ U k d w', (Builtin.append_ #[23, 23] ty #[u, .slice (some ⟨g, 0, none⟩) 1 1]).run Tryz.prog W = .ok (.slice U k d) w' ∧ WdP nm gr ki bo tn v cf W4 (K ++ [j]) (.slice U k d) w' := by
  obtain ⟨L, h1, h2, h3⟩ := h
  have hL : L.length = K.length := by rw [← h1, List.length_map]
  obtain ⟨v9, w9, hr, ho, hgr⟩ := app_row (ty := ty) h2.own hg (by intro u hu; simp only [List.mem_cons, List.not_mem_nil, or_false] at hu; rcases hu with rfl | rfl | rfl | rfl | rfl <;> rfl) (by omega) h2.le
  obtain ⟨U, d, rfl, _, _, _⟩ := own_form ho
  refine ⟨U, _, d, w9, hr, L ++ [(j, A, c)], by rw [List.map_append, h1]; rfl, ?_, fun x hx => ?_⟩
  · rw [List.length_append, rowsC_snoc]
    exact h2.grow ho hgr
  · rcases List.mem_append.1 hx with h | h
    · exact (h3 x h).grow h2.own hgr
    · rw [List.mem_singleton.1 h]
      exact hT.grow h2.own hgr
theorem wd_fresh {g : Nat} (h : WdP nm gr ki bo tn v cf W4 K u W) (hg : W.heap.size ≤ g) : u.ownBlock ≠ some g := by
  obtain ⟨L, h1, h2, h3⟩ := h
  intro e
  have := (h2.own.lt g e).1
  have := (h2.own.lt g e).2
  omega
end
def dropB (n : Nat) (gf : Nat → Int) (x : Int) : Bool := hasB n gf x && !decide (x = 0)
theorem drop_zero (gf : Nat → Int) : (fun _ : Int => false) = dropB 0 gf := by
  funext x
  unfold dropB hasB
  rw [decide_eq_false (fun ⟨i, hi, _⟩ => absurd hi (by omega))]
  rfl
theorem drop_next (gf : Nat → Int) (j : Nat) (x : Int) : dropB (j + 1) gf x = if x = gf j then !decide (gf j = 0) else dropB j gf x := by
  unfold dropB
  by_cases e : x = gf j
  · subst e
    rw [if_pos rfl, show hasB (j + 1) gf (gf j) = true from decide_eq_true ⟨j, by omega, rfl⟩, Bool.true_and]
  · rw [if_neg e]
    congr 1
    unfold hasB
    refine decide_eq_decide.2 ⟨fun ⟨i, hi, h⟩ => ⟨i, ?_, h⟩, fun ⟨i, hi, h⟩ => ⟨i, by omega, h⟩⟩
    rcases Nat.lt_or_ge i j with h9 | h9
    · exact h9
    · obtain rfl : i = j := by omega
      exact absurd h.symm e
theorem drop_stay {n : Nat} {gf gr : Nat → Int} {j : Nat} {b : Bool} (h : dropB n gf (gr j) = b) : stayB n gf gr j = !b := by
  subst h
  unfold stayB dropB
  cases hasB n gf (gr j) <;> by_cases e : gr j = 0 <;> simp [e]
set_option maxHeartbeats 16000000 in
theorem l_without (V0 : Option Addr) (vn vc : Nat) (R0 : Option Addr) (rn rc : Nat) (lo up : Nat → Int) (op it : Nat → Bool) (co : Nat → Int) (nm : Nat → ByteArray) (gr ki bo : Nat → Int) (TA : Nat → Option Addr) (tn tc : Nat → Nat) (v cf : Nat → Nat → Int) (G : Option Addr) (gn gc : Nat) (gf : Nat → Int) (w : World)
    (hV : Vs w V0 vn vc lo up op it co) (hR : Rs w R0 rn rc nm gr ki bo TA tn tc v cf) (hG : Il w G gn gc gf) (hgb : ∀ i, i < gn → -9223372036854775808 ≤ gf i ∧ gf i ≤ 9223372036854775807) (hv : vn ≤ 1000) (hr : rn ≤ 1000) (hg : gn ≤ 1000) (ht : ∀ i, i < rn → tn i ≤ 1000) :
    Calls Tryz.prog 44 #[.agg #[.slice V0 vn vc, .slice R0 rn rc], .slice G gn gc] w (RetPg w vn lo up op it co nm gr ki bo tn v cf (keptL gn gf gr rn)) := by
  have hmm := @run_makeMap Tryz.prog
  have h1 := hG.1
  have h2 := hG.2.1
  have h3 := hR.1
  have h4 := hR.2.1
  have HR := hid hR
  have HG := hid hG
  have HV := hid hV
  have GB := hid hgb
  have TB0 := hid ht
  have VB := hid hV.2.2.1
  obtain ⟨W0, hW⟩ : ∃ W, W = (w.alloc (.cells #[.slice V0 vn vc, .slice R0 rn rc] 25)).alloc (.cells #[.slice none 0 0, .slice none 0 0] 25) := ⟨_, rfl⟩
  have B0 := bx_alloc (bx_alloc (bx_refl w) (.cells #[.slice V0 vn vc, .slice R0 rn rc] 25)) (.cells #[.slice none 0 0, .slice none 0 0] 25)
  have K0 := (Blk.new w [.slice V0 vn vc, .slice R0 rn rc] 25).alloc (.cells #[.slice none 0 0, .slice none 0 0] 25)
  have K1 := blk_new1 w (.cells #[.slice V0 vn vc, .slice R0 rn rc] 25) [.slice none 0 0, .slice none 0 0] 25
  simp only [List.toArray] at K0 K1
  rw [← hW] at B0 K0 K1
  have hlt : w.heap.size + 1 < W0.heap.size := by have := K1.lt; omega
  have KK := hid (show Below w.heap.size w W0 ∧ Blk W0 w.heap.size [.slice V0 vn vc, .slice R0 rn rc] 25 ∧ Blk W0 (w.heap.size + 1) [.slice none 0 0, .slice none 0 0] 25 from ⟨B0, K0, K1⟩)
  have M0 := hid (show MpP W0 0 (dropB 0 gf) (W0.alloc (.map #[] 0)) from by rw [← drop_zero]; exact MpP.made W0)
  clear hV hR hG hgb ht B0 K0 K1
  go_enter Tryz.func44, Tryz.ntmps44
  go_upto_region 1 with fail
  rw [← hW]
  clear hW
  go_wp2_with fail
  go_loopw [14] (fun i wr => ∃ j : Nat, j ≤ gn ∧ i = .int .i64 j ∧ Hid (MpP W0 j (dropB j gf) wr)) (fun i _ => gn - (intOf i).toNat)
  case atStart => exact ⟨0, Nat.zero_le _, rfl, M0⟩
  case round =>
    clear M0
    obtain ⟨j, hj, rfl, hz⟩ := hrel
    rcases Nat.lt_or_ge j gn with hlt5 | hge
    · obtain ⟨b, o, rfl, hb, hcell⟩ := HG.out.2.2 (by omega)
      have q0 := cell_bx (hcell j hlt5) (bx_call KK.out.1 hz.out.bel)
      have gb := GB.out j hlt5
      obtain ⟨D, ho, hf⟩ := hz.out.ex
      have HO := hid ho
      have BL := hid hz.out.bel
      have NX := hid (fun (b : Bool) (hb : b = !decide (gf j = 0)) => mp_put (f' := dropB (j + 1) gf) (g := gf j) (b := b) (ho.isMap) hf (fun x => by rw [hb]; exact drop_next gf j x))
      have KI := hid (key_int gb)
      obtain ⟨gj, hgj⟩ : ∃ x, x = gf j := ⟨_, rfl⟩
      rw [← hgj] at q0 NX KI
      clear hz ho hf hcell hgj gb HG GB
      by_cases e : gj = 0
      · subst e
        have t1 : ((0 : Int) != 0) = false := rfl
        go_wp2_with (at_mapUpdate; refine wpList_mapUpdate_own _ rfl _ _ _ 110 rfl 3 4 keyed_int und_map (plainElem Tryz.prog 4) W0.heap.size j D rfl HO.out (by unfold maxLen; omega) _ _ _ rfl rfl KI.out _ [] (plainElem_bool und_bool _) ?_; intro w1 hown1 hgrow1)
        have NN := hid (show MpP W0 (j + 1) (dropB (j + 1) gf) w1 from ⟨bx_grow BL.out hgrow1 (Nat.le_refl _), _, hown1, NX.out false (by simp)⟩)
        clear hown1 hgrow1 HO BL NX KI
        go_roundw
        case rel => exact ⟨j + 1, by omega, by go_num, NN⟩
        case measure => simp [intOf]; omega
      · have t1 : (gj != 0) = true := by simp [e]
        go_wp2_with (at_mapUpdate; refine wpList_mapUpdate_own _ rfl _ _ _ 110 rfl 3 4 keyed_int und_map (plainElem Tryz.prog 4) W0.heap.size j D rfl HO.out (by unfold maxLen; omega) _ _ _ rfl rfl KI.out _ [] (plainElem_bool und_bool _) ?_; intro w1 hown1 hgrow1)
        have NN := hid (show MpP W0 (j + 1) (dropB (j + 1) gf) w1 from ⟨bx_grow BL.out hgrow1 (Nat.le_refl _), _, hown1, NX.out true (by simp [e])⟩)
        clear hown1 hgrow1 HO BL NX KI
        go_roundw
        case rel => exact ⟨j + 1, by omega, by go_num, NN⟩
        case measure => simp [intOf]; omega
    · obtain rfl : j = gn := by omega
      obtain ⟨W4, hW4⟩ : ∃ W, W = wr := ⟨_, rfl⟩
      rw [← hW4] at hz ⊢
      have MP := hid hz.out
      have x1 := (blk_two ((KK.out.2.1.keep hz.out.bel).alloc (.cells #[] 77))).2
      have WS := hid (show WdP nm gr ki bo tn v cf W4 (keptL j gf gr 0) (.slice (some ⟨W4.heap.size, 0, none⟩) 0 0) (W4.alloc (.cells #[] 77)) from wd_start W4)
      have hlt4 : w.heap.size + 1 < W4.heap.size := Nat.lt_of_lt_of_le hlt hz.out.bel.size
      have BW := hid (bx_call KK.out.1 hz.out.bel)
      have BP := hid (KK.out.2.1.keep hz.out.bel)
      have BR := hid (KK.out.2.2.keep hz.out.bel)
      clear hz HG GB KK hW4
      go_wp2_with fail
      clear x1
      go_loopw [8, 27] (fun u i wr => ∃ j9 : Nat, j9 ≤ rn ∧ i = .int .i64 j9 ∧ (∃ U k c, u = .slice U k c) ∧ Hid (WdP nm gr ki bo tn v cf W4 (keptL j gf gr j9) u wr)) (fun _ i _ => rn - (intOf i).toNat)
      case atStart => exact ⟨0, Nat.zero_le _, rfl, ⟨_, _, _, rfl⟩, WS⟩
      case round =>
        clear WS
        obtain ⟨i, hi, rfl, ⟨U, k, c, rfl⟩, hz⟩ := hrel
        rcases Nat.lt_or_ge i rn with hlt5 | hge
        · obtain ⟨b, o, rfl, hb, hcell⟩ := HR.out.2.2.2 (by omega)
          have TS := hid (HR.out.2.2.1 i hlt5).2.2.2
          have ti := TB0.out i hlt5
          have gb := (HR.out.2.2.1 i hlt5).2.2.1
          obtain ⟨q0, q1, q2, q3, q4⟩ := hcell i hlt5
          have B' := bx_call BW.out hz.out.bel
          replace q0 := cell_bx q0 B'
          replace q1 := cell_bx q1 B'
          replace q2 := cell_bx q2 B'
          replace q3 := cell_bx q3 B'
          replace q4 := cell_bx q4 B'
          have kl := Nat.le_trans (keptL_len (gn := j) (gf := gf) (gr := gr) (n := i)) (by omega : i ≤ 1000000)
          obtain ⟨W6, rb, hW, hp, b6, kk⟩ := mk_cells wr [.string (nm i), .int .i64 (gr i), .int .i64 (ki i), .slice (TA i) (tn i) (tc i), .int .i64 (bo i)] 77
          simp only [List.toArray] at hW
          have M := hid (hz.out.keep b6)
          have hfr := wd_fresh hz.out (g := rb) (by omega)
          have rge : W4.heap.size ≤ rb := by have := hz.out.bel.size; omega
          have rlt := kk.lt
          obtain ⟨D, ho, hf⟩ := MP.out.ex
          have hrun := map_look (own_map_keep ho (bx_call hz.out.bel b6)) hf gb
          have TW := hid (TS.out.keep (bx_call B' b6))
          have KB := hid kk
          have FR := hid (show (Value.slice U k c).ownBlock ≠ some rb ∧ W4.heap.size ≤ rb ∧ (keptL j gf gr i).length ≤ 1000000 from ⟨hfr, rge, kl⟩)
          obtain ⟨s, hs⟩ : ∃ s, s = dropB j gf (gr i) := ⟨_, rfl⟩
          rw [← hs] at hrun
          have ST := hid (drop_stay hs.symm)
          clear hz hcell B' b6 kk ho hf hfr rge kl hs TS gb MP
          go_upto_region 11 with fail
          rw [← hW, ← hp]
          clear hW hp q0 q1 q2 q3 q4
          obtain ⟨r0, r1, r2, r3, r4⟩ := blk_fif KB.out
          cases s
          · go_wp2_with fail
            clear hrun r0 r1 r2 r3 r4
            refine (o_clone_terms TW.out ti).mono ?_
            rintro e W7 ⟨x, rfl, own7, b7⟩
            obtain ⟨B7, c7, rfl, hT7⟩ := own_tsT own7 TW.out.2.2.1
            replace M := hid (M.out.keep b7)
            have KB7 := hid (KB.out.keep b7)
            clear KB own7 b7 TW
            obtain ⟨W8, hW8⟩ : ∃ W, W = W7.setCell ⟨rb, 3, none⟩ (.slice B7 (tn i) c7) := ⟨_, rfl⟩
            have KB8 := hid (Blk.set_ KB7.out 3 (.slice B7 (tn i) c7))
            simp only [List.set_cons_succ, List.set_cons_zero] at KB8
            have M8 := hid (M.out.far (i := 3) KB7.out FR.out.1 FR.out.2.1 (.slice B7 (tn i) c7))
            have T8 := hid (hT7.far (i := 3) KB7.out (by decide) (.slice B7 (tn i) c7))
            rw [← hW8] at KB8 M8 T8
            have f3 := Blk.free KB7.out 3
            obtain ⟨r0, r1, r2, r3, r4⟩ := blk_fif KB7.out
            clear hT7
            replace hW8 := hid hW8
            go_upto_region 13 with fail
            rw [← hW8.out]
            clear f3 r0 r1 r2 r3 r4 KB7 M hW8
            obtain ⟨r0, r1, r2, r3, r4⟩ := blk_fif KB8.out
            obtain ⟨W9, nb, hW, hp, b9, kk⟩ := mk_cells W8 [.string (nm i), .int .i64 (gr i), .int .i64 (ki i), .slice B7 (tn i) c7, .int .i64 (bo i)] 77
            simp only [List.toArray] at hW
            obtain ⟨U9, k9, d9, w9, hrun9, N9⟩ := wd_next (ty := 23) (M8.out.keep b9) FR.out.2.2 kk (T8.out.keep b9)
            rw [hW, hp] at hrun9
            rw [← keptL_yes ST.out] at N9
            have NN := hid N9
            clear N9 hW hp b9 kk KB8 M8 T8 FR ST
            go_wp2_with (at_builtin; refine wpList_app_run rfl (.tmp 40) (.tmp 42) rfl rfl rfl hrun9 ?_; clear hrun9)
            go_roundw
            case rel => exact ⟨i + 1, by omega, by go_num, ⟨_, _, _, rfl⟩, NN⟩
            case measure => simp [intOf]; omega
          · have NN := hid (show WdP nm gr ki bo tn v cf W4 (keptL j gf gr (i + 1)) (.slice U k c) W6 from by rw [keptL_no ST.out]; exact M.out)
            clear M KB FR ST TW
            go_wp2_with fail
            go_roundw
            case rel => exact ⟨i + 1, by omega, by go_num, ⟨_, _, _, rfl⟩, NN⟩
            case measure => simp [intOf]; omega
        · obtain rfl : i = rn := by omega
          have M := hid hz.out
          have hwr := M.out.bel.size
          clear hz MP
          obtain ⟨z0, z1⟩ := blk_two (BP.out.keep M.out.bel)
          go_wp2_with fail
          clear z0 z1
          refine (o_clone_vars (HV.out.keep (bx_call BW.out M.out.bel)) hv).mono ?_
          rintro e W7 ⟨x, rfl, own7, b7⟩
          obtain ⟨V1, d1, rfl, _, _, _⟩ := own_form own7
          replace M := hid (M.out.keep b7)
          have f0 := (BR.out.keep M.out.bel).free 0
          have f1 := (BR.out.keep M.out.bel).free 1
          obtain ⟨r0, r1⟩ := blk_two (BR.out.keep M.out.bel)
          have hl7 : w.heap.size + 1 < wr.heap.size := Nat.lt_of_lt_of_le hlt4 hwr
          have FIN := hid (show RetPg w vn lo up op it co nm gr ki bo tn v cf (keptL j gf gr i) (.returned (.agg #[.slice V1 vn d1, .slice U k c])) ((W7.setCell ⟨w.heap.size + 1, 0, none⟩ (.slice V1 vn d1)).setCell ⟨w.heap.size + 1, 1, none⟩ (.slice U k c)) from by
            have B9 := bx_set (i := 1) (u := .slice U k c) (bx_set (i := 0) (u := .slice V1 vn d1) (bx_call BW.out M.out.bel) (Nat.le_succ _)) (Nat.le_succ _)
            have O1 := ownsRow_setCell_below (ownsRow_setCell_below own7 (a := ⟨w.heap.size + 1, 0, none⟩) (by exact hl7) (.slice V1 vn d1)) (a := ⟨w.heap.size + 1, 1, none⟩) (by exact hl7) (.slice U k c)
            obtain ⟨L, hm, h2, hts⟩ := M.out.ex
            have O2 := ownsRow_setCell_below (ownsRow_setCell_below h2.own (a := ⟨w.heap.size + 1, 0, none⟩) (by exact hlt4) (.slice V1 vn d1)) (a := ⟨w.heap.size + 1, 1, none⟩) (by exact hlt4) (.slice U k c)
            have R7 := BR.out.keep M.out.bel
            obtain ⟨V2, d3, e, HV⟩ := own_vs O1 VB.out
            cases e
            obtain ⟨R1, d2, TB, td, e, HR1⟩ := rows_made (v := v) (cf := cf) hm O2 (fun x hx => by
              have hx1 : x.1 < i := keptL_lt (by rw [← hm]; exact List.mem_map.2 ⟨x, hx, rfl⟩)
              obtain ⟨a1, a2, a3, _⟩ := HR.out.2.2.1 x.1 hx1
              exact ⟨a1, a2, a3, (((hts x hx).far (i := 0) R7 (by decide) (.slice V1 vn d1)).far (i := 1) (R7.set_ 0 _) (by decide) (.slice U k c)).1⟩)
            cases e
            exact ⟨_, _, _, _, TB, td, rfl, HV, HR1, B9⟩)
          have R8 := blk_set2 (u := .slice V1 vn d1) (v := .slice U k c) (BR.out.keep M.out.bel)
          obtain ⟨W9, hW9⟩ : ∃ W, W = (W7.setCell ⟨w.heap.size + 1, 0, none⟩ (.slice V1 vn d1)).setCell ⟨w.heap.size + 1, 1, none⟩ (.slice U k c) := ⟨_, rfl⟩
          rw [← hW9] at FIN R8
          replace hW9 := hid hW9
          clear M HR BW BP BR VB HV own7 b7 TB0
          go_wp2_with fail
          rw [← hW9.out]
          clear r0 r1 f0 f1
          obtain ⟨r0, r1⟩ := blk_two R8
          try simp only [Exit.inBlock, Exit.then]
          exact bodyPost_ret (v := .agg #[.slice V1 vn d1, .slice U k c]) (by simp [results, Tryz.results44, go_sem, r0, r1]) rfl FIN.out
end Go.Proofs.YtdbccidlnhjfhaaGreatDoor
