/- Format of the specification. -/
import Derived.Test.YtdbccidlnhjfhaaGreatDoorSmt
import Derived.Test.YtdbccidlnhjfhaaGreatDoorR5ax
import Derived.Deep.DeepCutAuto
import Derived.BigQuiet
namespace Go.Proofs.YtdbccidlnhjfhaaGreatDoor
open Go.RowKit
set_option maxRecDepth 100000
theorem wp_append_str {w : World} {o : Oper} {a : Act} {K : Act → World → Prop} {Q : Exit → Act → World → Prop} (s x : Operand) (ho : o.op = .call { callee := .builtin .append, args := #[s, x], argTypes := #[30, 30] })
    (base : Nat) (v : Value) (l : List ByteArray) (hs : a.eval s = v) (hown : w.ownsRow base 9 1 v l.length (strs l)) (g : Nat) (y : ByteArray) (hx : a.eval x = .slice (some ⟨g, 0, none⟩) 1 1) (hg : Blk w g [.string y] 9) (hl : l.length + 1 ≤ 1000000000) (hbase : base ≤ w.heap.size)
    (h : ∀ v' w', w'.ownsRow base 9 1 v' (l ++ [y]).length (strs (l ++ [y])) → w.grownBy w' v.ownBlock → K (a.put o.dst v') w') : o.wp Tryz.prog a w K Q := by
  obtain ⟨i0, hi, hz0, hz1, hz2⟩ := Tryz.infoStr
  obtain ⟨v', w', hr, h2, h3, _⟩ := run_append_own_at (P := Tryz.prog) (w := w) base 30 o.type 9 i0 (.string ⟨#[]⟩) 1 16 (by kernel_rfl) hi hz0 hz1 hz2 rfl (by omega) v l.length (strs l) hown ⟨g, 0, none⟩ 1 1 [.string y] rfl (fun k u hk => by rw [addr_add, hg.cell]; exact hk) (fun u hu => by simp at hu; subst hu; rfl) (by unfold maxLen; omega) (by omega) hbase
  unfold Oper.wp execOp
  simp only [ho, resolve, invoke, builtin, Sem.run_bind, Sem.run_pure, Result.andThen_ok, List.map_toArray, List.map_cons, List.map_nil, hs, hx, hr]
  exact h v' w' (by rw [strs_append, List.length_append]; exact h2) h3
theorem rel_cell {W : World} {nb kn : Nat} (K : Blk W nb [.string ⟨#[60, 61]⟩, .string ⟨#[62, 61]⟩, .string ⟨#[61]⟩] 9) (h : kn ≤ 2) : W.cell? ⟨nb, kn, none⟩ = some (.string (relB (kn : Int))) := by
  rcases (show kn = 0 ∨ kn = 1 ∨ kn = 2 by omega) with rfl | rfl | rfl
  · exact Blk.cell K 0
  · exact Blk.cell K 1
  · exact Blk.cell K 2
structure Fr (W0 : World) (rb : Nat) (cs : List Value) (B : Nat) (v : Value) (l : List ByteArray) (W : World) : Prop where
  s : SlP W0 B v l W
  r : Blk W rb cs 77
theorem Fr.keep {W0 W W' : World} {rb : Nat} {cs : List Value} {B : Nat} {v : Value} {l : List ByteArray} (h : Fr W0 rb cs B v l W) (b : Below W.heap.size W W') : Fr W0 rb cs B v l W' := ⟨h.s.keep b, h.r.keep b⟩
structure Fv (W0 : World) (rb : Nat) (cs : List Value) (B : Nat) (v : Value) (l : List ByteArray) (W : World) : Prop where
  s : SlP W0 B v l W
  r : Blk W rb cs 60
theorem Fv.keep {W0 W W' : World} {rb : Nat} {cs : List Value} {B : Nat} {v : Value} {l : List ByteArray} (h : Fv W0 rb cs B v l W) (b : Below W.heap.size W W') : Fv W0 rb cs B v l W' := ⟨h.s.keep b, h.r.keep b⟩
theorem inR_in {z : Int} (h : inR z) : -4611686018427387904 ≤ z ∧ z ≤ 4611686018427387904 := by unfold inR at h; omega
theorem vld_all {vn rn : Nat} {lo up : Nat → Int} {op : Nat → Bool} {co : Nat → Int} {nm : Nat → ByteArray} {gr ki bo : Nat → Int} {tn : Nat → Nat} {v cf : Nat → Nat → Int} (h : vldB vn rn lo up op co nm gr ki bo tn v cf = true) :
    (vn ≤ 1000000000) ∧ (∀ i, i < vn → inR (lo i) ∧ inR (up i) ∧ inR (co i)) ∧ ∀ i, i < rn → (0 ≤ gr i ∧ gr i ≤ 4611686018427387904) ∧ inR (bo i) ∧ ∀ t, t < tn i → -4611686018427387904 ≤ v i t ∧ v i t ≤ 4611686018427387904 := by
  unfold vldB at h
  simp only [Bool.and_eq_true, decide_eq_true_eq] at h
  refine ⟨by omega, fun i hi => ?_, fun i hi => ?_⟩
  · have h1 := h.1.2 i hi
    unfold varOk at h1
    exact h1.1
  · have hr := h.2 i hi
    unfold rowB nmB tmsB at hr
    simp only [Bool.and_eq_true, decide_eq_true_eq] at hr
    obtain ⟨⟨⟨⟨h1, h2⟩, h3⟩, h4⟩, h5⟩ := hr
    refine ⟨by omega, h3, fun t ht => ?_⟩
    have h6 := h5 t ht
    have h7 := h.1.1
    have h8 : ∀ t, t ≤ tn i → -1 ≤ prevV (v i) t := fun t => by
      induction t with
      | zero => intro _; exact Int.le_refl _
      | succ t ih =>
        intro ht
        have h9 := h5 t (by omega)
        have := ih (by omega)
        unfold tmOk at h9
        show -1 ≤ v i t
        omega
    have h9 := h8 t (by omega)
    unfold tmOk at h6
    omega
set_option maxHeartbeats 16000000 in
theorem r_format (V0 : Option Addr) (vn vc : Nat) (R0 : Option Addr) (rn rc : Nat) (lo up : Nat → Int) (op it : Nat → Bool) (co : Nat → Int) (nm : Nat → ByteArray) (gr ki bo : Nat → Int) (TA : Nat → Option Addr) (tn tc : Nat → Nat) (v cf : Nat → Nat → Int) (w : World) (hV : Vs w V0 vn vc lo up op it co) (hR : Rs w R0 rn rc nm gr ki bo TA tn tc v cf) (hnm : ∀ j, j < rn → (nm j).size ≤ 9223372036854775807) (htn : ∀ i, i < rn → tn i ≤ 100) (hvn9 : vn ≤ 1000000) (hrn9 : rn ≤ 1000000) :
    Calls Tryz.prog 16 #[.agg #[.slice V0 vn vc, .slice R0 rn rc]] w (RetLn w (fmtL (vldB vn rn lo up op co nm gr ki bo tn v cf) vn rn (vTx lo up op it co) (rTx nm gr ki bo tn v cf))) := by
  obtain ⟨ok, hok⟩ : ∃ b, b = vldB vn rn lo up op co nm gr ki bo tn v cf := ⟨_, rfl⟩
  have CO := hid (fun (W : World) (b : Below w.heap.size w W) => rvalidp V0 vn vc R0 rn rc lo up op it co nm gr ki bo TA tn tc v cf W (hV.keep b) (hR.keep b) hnm)
  rw [← hok] at CO ⊢
  have OK := hid (fun (h : ok = true) => vld_all (hok ▸ h))
  have OR := hid (fun (h : ok = true) => vld_row (hok ▸ h))
  have v1 := hV.1
  have v2 := hV.2.1
  have r1 := hR.1
  have r2 := hR.2.1
  have HV := hid hV
  have HR := hid hR
  have HT := hid htn
  obtain ⟨f, hf⟩ : ∃ f, f = vTx lo up op it co := ⟨_, rfl⟩
  obtain ⟨g, hg⟩ : ∃ g, g = rTx nm gr ki bo tn v cf := ⟨_, rfl⟩
  rw [← hf, ← hg]
  have HF := hid (fun j : Nat => (show f j = 120 :: (Lib.itoa (j : Int) ++ ([32, 105, 110, 32, 91] ++ (Lib.itoa (lo j) ++ ([44, 32] ++ (upTx (op j) (up j) ++ ([32] ++ kdTx (it j) ++ ([32, 99, 111, 115, 116, 32] ++ Lib.itoa (co j)))))))) by rw [hf]; unfold vTx varTx; rw [join7]; simp))
  have HG := hid (fun j : Nat => (show g j = (nm j).data.toList ++ ([32, 40] ++ (Lib.itoa (gr j) ++ ([41, 58, 32] ++ (sumTx (tn j) (v j) (cf j) ++ ([32] ++ ((relB (ki j)).data.toList ++ ([32] ++ Lib.itoa (bo j)))))))) by rw [hg]; unfold rTx rowTx; rw [join5]; simp))
  obtain ⟨W0, hW⟩ : ∃ W, W = w.alloc (.cells #[.slice V0 vn vc, .slice R0 rn rc] 25) := ⟨_, rfl⟩
  have B0 := bx_alloc (bx_refl w) (.cells #[.slice V0 vn vc, .slice R0 rn rc] 25)
  have KP := Blk.new w [.slice V0 vn vc, .slice R0 rn rc] 25
  change Blk (w.alloc (.cells #[.slice V0 vn vc, .slice R0 rn rc] 25)) _ _ _ at KP
  rw [← hW] at B0 KP
  have BB := hid B0
  have HK := hid KP
  clear hV hR hnm htn hok hf hg B0 KP
  go_enter Tryz.func16, Tryz.ntmps16
  go_upto_region 1 with fail
  rw [← hW]
  clear hW
  have S0 := hid (LnP.start W0)
  have KA := hid (HK.out.alloc (.cells #[] 9))
  have BA := hid (bx_alloc BB.out (.cells #[] 9))
  go_upto_region 2 with fail
  obtain ⟨W1, hW1⟩ : ∃ W, W = W0.alloc (.cells #[] 9) := ⟨_, rfl⟩
  rw [← hW1] at S0 KA BA ⊢
  clear hW1
  obtain ⟨z0, z1⟩ := blk_two KA.out
  go_wp2_with fail
  refine (CO.out _ BA.out).mono ?_
  rintro e W2 ⟨rfl, b⟩
  have S2 := hid (show LnP W0 W0.heap.size [] (.slice (some ⟨W0.heap.size, 0, none⟩) 0 0) W2 from by
    obtain ⟨l, s, h⟩ := S0.out.ex
    exact ⟨l, s.keep b, h⟩)
  clear b KA BA S0 CO z0 z1
  cases ok
  case false =>
    have S9 := hid (LnP.from BB.out S2.out)
    clear S2
    go_wp2_with fail
    go_ret
    exact ⟨_, _, rfl, by unfold fmtL; exact S9.out⟩
  have O1 := hid (OK.out rfl)
  have O2 := hid (OR.out rfl)
  clear OK OR
  go_wp2_with fail
  go_loopw [3, 4] (fun u i wr => ∃ j : Nat, j ≤ vn ∧ i = .int .i64 j ∧ Hid (LnP W0 W0.heap.size ((List.range j).map f) u wr)) (fun _ i _ => vn - (intOf i).toNat)
  case atStart => exact ⟨0, Nat.zero_le _, rfl, S2⟩
  case round =>
    clear S2
    obtain ⟨j, hj, rfl, hz⟩ := hrel
    obtain ⟨l, S0, hl0⟩ := hz.out.ex
    have hS0 := hid S0
    have hL0 := hid hl0
    have hll : l.length = j := by
      have := congrArg List.length hl0
      simpa [txs] using this
    clear hz S0 hl0
    have BJ := hid (bx_call BB.out hS0.out.bel)
    obtain ⟨z0, z1⟩ := blk_two (HK.out.keep hS0.out.bel)
    rcases Nat.lt_or_ge j vn with hlt | hge
    · obtain ⟨b, o, rfl, hb, hcell⟩ := HV.out.2.2.2 (by omega)
      obtain ⟨x0, x1, x2, x3, x4⟩ := hcell j hlt
      have c0 := cell_bx x0 BJ.out
      have c1 := cell_bx x1 BJ.out
      have c2 := cell_bx x2 BJ.out
      have c3 := cell_bx x3 BJ.out
      have c4 := cell_bx x4 BJ.out
      obtain ⟨r1l, r1u, r1c⟩ := O1.out.2.1 j hlt
      have q1 := inR_in r1l
      have q2 := inR_in r1u
      have q3 := inR_in r1c
      have FJ := HF.out j
      obtain ⟨lj, h0⟩ : ∃ x, x = lo j := ⟨_, rfl⟩
      obtain ⟨uj, h1⟩ : ∃ x, x = up j := ⟨_, rfl⟩
      obtain ⟨oj, h2⟩ : ∃ x, x = op j := ⟨_, rfl⟩
      obtain ⟨ij, h3⟩ : ∃ x, x = it j := ⟨_, rfl⟩
      obtain ⟨cj, h4⟩ : ∃ x, x = co j := ⟨_, rfl⟩
      rw [← h0] at c0 q1 FJ
      rw [← h1] at c1 q2 FJ
      rw [← h2] at c2 FJ
      rw [← h3] at c3 FJ
      rw [← h4] at c4 q3 FJ
      have CI := hid (fun (W : World) => r_number (j : Int) W (by omega) (by omega))
      have CL := hid (fun (W : World) => r_number lj W q1.1 q1.2)
      have CU := hid (fun (W : World) => r_number uj W q2.1 q2.2)
      have CC := hid (fun (W : World) => r_number cj W q3.1 q3.2)
      have li := hid (Lib.itoa_length_le (j : Int) (by omega) (by omega))
      have ll := hid (Lib.itoa_length_le lj (by omega) (by omega))
      have lu := hid (Lib.itoa_length_le uj (by omega) (by omega))
      have lc := hid (Lib.itoa_length_le cj (by omega) (by omega))
      have HJ := hid FJ
      clear hcell x0 x1 x2 x3 x4 r1l r1u r1c FJ h0 h1 h2 h3 h4 HV HR HT O1 O2 HF HG q1 q2 q3
      go_upto_region 8 with fail
      obtain ⟨wc, vb, hW, hp, b9, kk⟩ := mk_cells wr [.int .i64 lj, .int .i64 uj, .bool oj, .bool ij, .int .i64 cj] 60
      simp only [List.toArray] at hW
      rw [← hW, ← hp]
      have M := hid (show Fv W0 vb [.int .i64 lj, .int .i64 uj, .bool oj, .bool ij, .int .i64 cj] W0.heap.size u3 l wc from ⟨hS0.out.keep b9, kk⟩)
      clear hW hp b9 kk hS0 BJ c0 c1 c2 c3 c4 z0 z1
      (try simp only [List.append_eq, List.cons_append, List.nil_append])
      refine wp_region_noPanic ?_
      refine wp_region_held_drew (S := (fun W => W.cell? ⟨vb, 0, none⟩ = some (.int .i64 lj) ∧ W.cell? ⟨vb, 1, none⟩ = some (.int .i64 uj) ∧ W.cell? ⟨vb, 2, none⟩ = some (.bool oj) ∧ W.cell? ⟨vb, 3, none⟩ = some (.bool ij) ∧ W.cell? ⟨vb, 4, none⟩ = some (.int .i64 cj))) (by kernel_rfl) ?_ (fun hH => ?_)
      exact blk_fif (M.out.keep (bx_drew (bx_refl wc))).r
      have bd := bx_drew (bx_refl wc)
      obtain ⟨E0, hW0⟩ : ∃ W, W = wc.drew := ⟨_, rfl⟩
      rw [← hW0] at bd hH ⊢
      clear hW0
      replace M := hid (M.out.keep bd)
      clear bd
      refine tk 0 hH ?_
      (try simp only [Act.put, gy0, gy1, gy2])
      refine tk 4 hH ?_
      (try simp only [Act.put, gy0, gy1, gy2])
      refine tk 5 hH ?_
      (try simp only [Act.put, gy0, gy1, gy2])
      refine wpAnyH_ready (rs := [1]) (by kernel_rfl) (by simp) ?_
      refine rdy (fun K hK => ?_) AllReadyH.nil
      go_simp
      refine (CI.out _).mono ?_
      rintro e wc ⟨sI, rfl, eI, b⟩
      replace M := hid (M.out.keep b)
      have zI : sI.size ≤ 21 := by rw [size_of eI]; exact li.out
      have k1 : ¬9223372036854775807 < 1 + sI.size := by omega
      have k2 : ¬9223372036854775807 < 1 + sI.size + 5 := by omega
      have EI := hid eI
      clear b hH eI
      (try go_wp2_with fail)
      refine hK.out _ _ ?_ (fun hH => ?_)
      exact blk_fif M.out.r
      clear hK K
      (try simp only [Act.put, gy0, gy1, gy2])
      refine tk 2 hH ?_
      (try simp only [Act.put, gy0, gy1, gy2])
      refine tk 3 hH ?_
      (try simp only [Act.put, gy0, gy1, gy2])
      refine wpAnyH_ready (rs := [6]) (by kernel_rfl) (by simp) ?_
      refine rdy (fun K hK => ?_) AllReadyH.nil
      go_simp
      refine (CL.out _).mono ?_
      rintro e wc ⟨sL, rfl, eL, b⟩
      replace M := hid (M.out.keep b)
      have zL : sL.size ≤ 21 := by rw [size_of eL]; exact ll.out
      have k3 : ¬9223372036854775807 < 1 + sI.size + 5 + sL.size := by omega
      have k4 : ¬9223372036854775807 < 1 + sI.size + 5 + sL.size + 2 := by omega
      have EL := hid eL
      clear b hH eL
      (try go_wp2_with fail)
      refine hK.out _ _ ?_ (fun hH => ?_)
      exact blk_fif M.out.r
      clear hK K
      (try simp only [Act.put, gy0, gy1, gy2])
      refine tk 7 hH ?_
      (try simp only [Act.put, gy0, gy1, gy2])
      refine tk 8 hH ?_
      (try simp only [Act.put, gy0, gy1, gy2])
      refine tk 9 hH ?_
      (try simp only [Act.put, gy0, gy1, gy2])
      refine wpAnyH_done (by kernel_rfl) ?_ _
      refine NoPanic.normal ?_
      clear hH
      clear CI CL li ll
      obtain ⟨s8, hs8⟩ : ∃ x, x = (⟨#[120]⟩ : ByteArray) ++ sI ++ (⟨#[32, 105, 110, 32, 91]⟩ : ByteArray) ++ sL ++ (⟨#[44, 32]⟩ : ByteArray) := ⟨_, rfl⟩
      have z8 : s8.size ≤ 100 := by
        rw [hs8]
        simp only [ByteArray.size_append]
        show 1 + sI.size + 5 + sL.size + 2 ≤ 100
        omega
      have E8 := hid (show s8.data.toList = 120 :: (Lib.itoa (j : Int) ++ ([32, 105, 110, 32, 91] ++ (Lib.itoa lj ++ [44, 32]))) by rw [hs8]; simp only [catL, EI.out, EL.out]; simp)
      rw [← hs8]
      clear hs8 k1 k2 k3 k4 EI EL zI zL
      obtain ⟨y0, y1, y2, y3, y4⟩ := blk_fif M.out.r
      cases oj <;> cases ij
      case false.false =>
        go_wp2_with fail
        refine (CU.out _).mono ?_
        rintro e w5 ⟨sU, rfl, eU, b⟩
        replace M := hid (M.out.keep b)
        have zU : sU.size ≤ 21 := by rw [size_of eU]; exact lu.out
        have k1 : ¬9223372036854775807 < s8.size + sU.size := by omega
        have k2 : ¬9223372036854775807 < s8.size + sU.size + 1 := by omega
        have k3 : ¬9223372036854775807 < s8.size + sU.size + 1 + 5 := by omega
        have k4 : ¬9223372036854775807 < s8.size + sU.size + 1 + 5 + 6 := by omega
        have EU := hid eU
        clear b eU y0 y1 y2 y3 y4 CU lu
        obtain ⟨y0, y1, y2, y3, y4⟩ := blk_fif M.out.r
        go_wp2_with fail
        obtain ⟨s9, hs9⟩ : ∃ x, x = s8 ++ sU ++ (⟨#[93]⟩ : ByteArray) ++ (⟨#[32, 114, 101, 97, 108]⟩ : ByteArray) ++ (⟨#[32, 99, 111, 115, 116, 32]⟩ : ByteArray) := ⟨_, rfl⟩
        have z9 : s9.size ≤ 200 := by
          rw [hs9]
          simp only [ByteArray.size_append]
          show s8.size + sU.size + 1 + 5 + 6 ≤ 200
          omega
        have E9 := hid (show s9.data.toList = _ from congrArg (fun x : ByteArray => x.data.toList) hs9)
        rw [← hs9]
        clear hs9
        refine (CC.out _).mono ?_
        rintro e w6 ⟨sC, rfl, eC, b⟩
        have S1 := hid (M.out.s.keep b)
        have zC : sC.size ≤ 21 := by rw [size_of eC]; exact lc.out
        have k9 : ¬9223372036854775807 < s9.size + sC.size := by omega
        have EC := hid eC
        clear b eC y0 y1 y2 y3 y4 CC lc M k1 k2 k3 k4
        go_wp2_with (at_builtin
                     refine wp_app S1 [s9 ++ sC] rfl (.tmp 48) (.tmp 57) rfl rfl rfl (by show l.length + 1 ≤ 1000000000; omega) ?_
                     intro v1 w1 S2 K2
                     clear K2)
        refine ⟨⟨j + 1, by omega, rfl, hid ?_⟩, by show vn - ((j : Int) + 1).toNat < vn - (j : Int).toNat; omega⟩
        rw [map_next]
        exact ln_step S2.out hL0.out (by rw [catL, E9.out, HJ.out, EC.out]; simp only [catL, E8.out, EU.out]; simp [upTx, kdTx])
      case false.true =>
        go_wp2_with fail
        refine (CU.out _).mono ?_
        rintro e w5 ⟨sU, rfl, eU, b⟩
        replace M := hid (M.out.keep b)
        have zU : sU.size ≤ 21 := by rw [size_of eU]; exact lu.out
        have k1 : ¬9223372036854775807 < s8.size + sU.size := by omega
        have k2 : ¬9223372036854775807 < s8.size + sU.size + 1 := by omega
        have k3 : ¬9223372036854775807 < s8.size + sU.size + 1 + 8 := by omega
        have k4 : ¬9223372036854775807 < s8.size + sU.size + 1 + 8 + 6 := by omega
        have EU := hid eU
        clear b eU y0 y1 y2 y3 y4 CU lu
        obtain ⟨y0, y1, y2, y3, y4⟩ := blk_fif M.out.r
        go_wp2_with fail
        obtain ⟨s9, hs9⟩ : ∃ x, x = s8 ++ sU ++ (⟨#[93]⟩ : ByteArray) ++ (⟨#[32, 105, 110, 116, 101, 103, 101, 114]⟩ : ByteArray) ++ (⟨#[32, 99, 111, 115, 116, 32]⟩ : ByteArray) := ⟨_, rfl⟩
        have z9 : s9.size ≤ 200 := by
          rw [hs9]
          simp only [ByteArray.size_append]
          show s8.size + sU.size + 1 + 8 + 6 ≤ 200
          omega
        have E9 := hid (show s9.data.toList = _ from congrArg (fun x : ByteArray => x.data.toList) hs9)
        rw [← hs9]
        clear hs9
        refine (CC.out _).mono ?_
        rintro e w6 ⟨sC, rfl, eC, b⟩
        have S1 := hid (M.out.s.keep b)
        have zC : sC.size ≤ 21 := by rw [size_of eC]; exact lc.out
        have k9 : ¬9223372036854775807 < s9.size + sC.size := by omega
        have EC := hid eC
        clear b eC y0 y1 y2 y3 y4 CC lc M k1 k2 k3 k4
        go_wp2_with (at_builtin
                     refine wp_app S1 [s9 ++ sC] rfl (.tmp 48) (.tmp 57) rfl rfl rfl (by show l.length + 1 ≤ 1000000000; omega) ?_
                     intro v1 w1 S2 K2
                     clear K2)
        refine ⟨⟨j + 1, by omega, rfl, hid ?_⟩, by show vn - ((j : Int) + 1).toNat < vn - (j : Int).toNat; omega⟩
        rw [map_next]
        exact ln_step S2.out hL0.out (by rw [catL, E9.out, HJ.out, EC.out]; simp only [catL, E8.out, EU.out]; simp [upTx, kdTx])
      case true.false =>
        have k1 : ¬9223372036854775807 < s8.size + 5 := by omega
        have k2 : ¬9223372036854775807 < s8.size + 5 + 5 := by omega
        have k3 : ¬9223372036854775807 < s8.size + 5 + 5 + 6 := by omega
        clear CU lu
        go_wp2_with fail
        obtain ⟨s9, hs9⟩ : ∃ x, x = s8 ++ (⟨#[111, 112, 101, 110, 41]⟩ : ByteArray) ++ (⟨#[32, 114, 101, 97, 108]⟩ : ByteArray) ++ (⟨#[32, 99, 111, 115, 116, 32]⟩ : ByteArray) := ⟨_, rfl⟩
        have z9 : s9.size ≤ 200 := by
          rw [hs9]
          simp only [ByteArray.size_append]
          show s8.size + 5 + 5 + 6 ≤ 200
          omega
        have E9 := hid (show s9.data.toList = _ from congrArg (fun x : ByteArray => x.data.toList) hs9)
        rw [← hs9]
        clear hs9
        refine (CC.out _).mono ?_
        rintro e w6 ⟨sC, rfl, eC, b⟩
        have S1 := hid (M.out.s.keep b)
        have zC : sC.size ≤ 21 := by rw [size_of eC]; exact lc.out
        have k9 : ¬9223372036854775807 < s9.size + sC.size := by omega
        have EC := hid eC
        clear b eC y0 y1 y2 y3 y4 CC lc M k1 k2 k3
        go_wp2_with (at_builtin
                     refine wp_app S1 [s9 ++ sC] rfl (.tmp 48) (.tmp 57) rfl rfl rfl (by show l.length + 1 ≤ 1000000000; omega) ?_
                     intro v1 w1 S2 K2
                     clear K2)
        refine ⟨⟨j + 1, by omega, rfl, hid ?_⟩, by show vn - ((j : Int) + 1).toNat < vn - (j : Int).toNat; omega⟩
        rw [map_next]
        exact ln_step S2.out hL0.out (by rw [catL, E9.out, HJ.out, EC.out]; simp only [catL, E8.out]; simp [upTx, kdTx])
      case true.true =>
        have k1 : ¬9223372036854775807 < s8.size + 5 := by omega
        have k2 : ¬9223372036854775807 < s8.size + 5 + 8 := by omega
        have k3 : ¬9223372036854775807 < s8.size + 5 + 8 + 6 := by omega
        clear CU lu
        go_wp2_with fail
        obtain ⟨s9, hs9⟩ : ∃ x, x = s8 ++ (⟨#[111, 112, 101, 110, 41]⟩ : ByteArray) ++ (⟨#[32, 105, 110, 116, 101, 103, 101, 114]⟩ : ByteArray) ++ (⟨#[32, 99, 111, 115, 116, 32]⟩ : ByteArray) := ⟨_, rfl⟩
        have z9 : s9.size ≤ 200 := by
          rw [hs9]
          simp only [ByteArray.size_append]
          show s8.size + 5 + 8 + 6 ≤ 200
          omega
        have E9 := hid (show s9.data.toList = _ from congrArg (fun x : ByteArray => x.data.toList) hs9)
        rw [← hs9]
        clear hs9
        refine (CC.out _).mono ?_
        rintro e w6 ⟨sC, rfl, eC, b⟩
        have S1 := hid (M.out.s.keep b)
        have zC : sC.size ≤ 21 := by rw [size_of eC]; exact lc.out
        have k9 : ¬9223372036854775807 < s9.size + sC.size := by omega
        have EC := hid eC
        clear b eC y0 y1 y2 y3 y4 CC lc M k1 k2 k3
        go_wp2_with (at_builtin
                     refine wp_app S1 [s9 ++ sC] rfl (.tmp 48) (.tmp 57) rfl rfl rfl (by show l.length + 1 ≤ 1000000000; omega) ?_
                     intro v1 w1 S2 K2
                     clear K2)
        refine ⟨⟨j + 1, by omega, rfl, hid ?_⟩, by show vn - ((j : Int) + 1).toNat < vn - (j : Int).toNat; omega⟩
        rw [map_next]
        exact ln_step S2.out hL0.out (by rw [catL, E9.out, HJ.out, EC.out]; simp only [catL, E8.out]; simp [upTx, kdTx])
    · obtain rfl : vn = j := by omega
      have S3 := hid (show LnP W0 W0.heap.size ((List.range vn).map f ++ (List.range 0).map g) _ wr from ⟨l, hS0.out, by rw [hL0.out]; simp⟩)
      clear hS0 hL0 BJ
      go_wp2_with fail
      go_loopw [3, 8] (fun u i wr => ∃ j : Nat, j ≤ rn ∧ i = .int .i64 j ∧ Hid (LnP W0 W0.heap.size ((List.range vn).map f ++ (List.range j).map g) u wr)) (fun _ i _ => rn - (intOf i).toNat)
      case atStart => exact ⟨0, Nat.zero_le _, rfl, S3⟩
      case round =>
        clear S3 z0 z1
        obtain ⟨j, hj, rfl, hz⟩ := hrel
        obtain ⟨l, S0, hl0⟩ := hz.out.ex
        have hS0 := hid S0
        have hL0 := hid hl0
        have hll : l.length = vn + j := by
          have := congrArg List.length hl0
          simpa [txs] using this
        clear hz S0 hl0
        have BJ := hid (bx_call BB.out hS0.out.bel)
        obtain ⟨z0, z1⟩ := blk_two (HK.out.keep hS0.out.bel)
        rcases Nat.lt_or_ge j rn with hlt | hge
        · obtain ⟨b, o, rfl, hb, hcell⟩ := HR.out.2.2.2 (by omega)
          obtain ⟨x0, x1, x2, x3, x4⟩ := hcell j hlt
          have c0 := cell_bx x0 BJ.out
          have c1 := cell_bx x1 BJ.out
          have c2 := cell_bx x2 BJ.out
          have c3 := cell_bx x3 BJ.out
          have c4 := cell_bx x4 BJ.out
          obtain ⟨q1, q2, q3⟩ := O1.out.2.2 j hlt
          have q4 := inR_in q2
          obtain ⟨p1, p2, p3⟩ := O2.out j hlt
          obtain ⟨kn, hkn9⟩ : ∃ kn : Nat, ki j = (kn : Int) := ⟨(ki j).toNat, by omega⟩
          have hk2 : kn ≤ 2 := by omega
          have hk3 : (kn : Int) < 3 := by omega
          have TS := (HR.out.2.2.1 j hlt).2.2.2
          have HTJ := HT.out j hlt
          have GJ := HG.out j
          rw [hkn9] at c2 GJ
          have CT := hid (fun (W : World) (B : Below w.heap.size w W) => r_sum (TA j) (tn j) (tc j) (v j) (cf j) W (TS.keep B) (by omega) p3 q3)
          have lt9 := hid (sumTx_len (tn := tn j) (v := v j) (cf := cf j) (fun t ht => by have := q3 t ht; omega) p3 (by omega))
          obtain ⟨nj, h0⟩ : ∃ x, x = nm j := ⟨_, rfl⟩
          obtain ⟨gj, h1⟩ : ∃ x, x = gr j := ⟨_, rfl⟩
          obtain ⟨bj, h4⟩ : ∃ x, x = bo j := ⟨_, rfl⟩
          obtain ⟨tx9, h5⟩ : ∃ x, x = sumTx (tn j) (v j) (cf j) := ⟨_, rfl⟩
          rw [← h5] at CT lt9 GJ
          obtain ⟨TJ, h2⟩ : ∃ x, x = TA j := ⟨_, rfl⟩
          obtain ⟨tj, h3⟩ : ∃ x, x = tn j := ⟨_, rfl⟩
          obtain ⟨tcj, h6⟩ : ∃ x, x = tc j := ⟨_, rfl⟩
          rw [← h2, ← h3, ← h6] at CT c3
          rw [← h0] at c0 p1 GJ
          rw [← h1] at c1 q1 GJ
          rw [← h4] at c4 q4 GJ
          obtain ⟨rl, hrl⟩ : ∃ x, x = relB (kn : Int) := ⟨_, rfl⟩
          have zl : rl.size ≤ 2 := by rw [hrl]; exact relB_len _
          have RC := hid (fun (W : World) (nb : Nat) (K : Blk W nb [.string ⟨#[60, 61]⟩, .string ⟨#[62, 61]⟩, .string ⟨#[61]⟩] 9) => (show W.cell? ⟨nb, kn, none⟩ = some (.string rl) by rw [hrl]; exact rel_cell K hk2))
          rw [← hrl] at GJ
          have CG := hid (fun (W : World) => r_number gj W (by omega) (by omega))
          have CB := hid (fun (W : World) => r_number bj W q4.1 q4.2)
          have lg := hid (Lib.itoa_length_le gj (by omega) (by omega))
          have lb := hid (Lib.itoa_length_le bj (by omega) (by omega))
          have HJ := hid GJ
          have BW0 := hid (fun (W : World) (B : Below W0.heap.size W0 W) => bx_call BB.out B)
          have k1 : ¬9223372036854775807 < nj.size + 2 := by omega
          clear hcell x0 x1 x2 x3 x4 GJ h0 h1 h2 h3 h4 h5 h6 HR HT O1 O2 HG q1 q2 q3 q4 p2 p3 TS HTJ hrl hkn9
          go_upto_region 20 with fail
          obtain ⟨wc, rb, hW, hp, b9, kk⟩ := mk_cells wr [.string nj, .int .i64 gj, .int .i64 (kn : Int), .slice TJ tj tcj, .int .i64 bj] 77
          simp only [List.toArray] at hW
          rw [← hW, ← hp]
          have M := hid (show Fr W0 rb [.string nj, .int .i64 gj, .int .i64 (kn : Int), .slice TJ tj tcj, .int .i64 bj] W0.heap.size u3 l wc from ⟨hS0.out.keep b9, kk⟩)
          clear hW hp b9 kk hS0 BJ c0 c1 c2 c3 c4 z0 z1
          (try simp only [List.append_eq, List.cons_append, List.nil_append])
          refine wp_region_noPanic ?_
          refine wp_region_held_drew (S := (fun W => W.cell? ⟨rb, 0, none⟩ = some (.string nj) ∧ W.cell? ⟨rb, 1, none⟩ = some (.int .i64 gj) ∧ W.cell? ⟨rb, 2, none⟩ = some (.int .i64 (kn : Int)) ∧ W.cell? ⟨rb, 3, none⟩ = some (.slice TJ tj tcj) ∧ W.cell? ⟨rb, 4, none⟩ = some (.int .i64 bj))) (by kernel_rfl) ?_ (fun hH => ?_)
          · exact blk_fif (M.out.keep (bx_drew (bx_refl _))).r
          have bd := bx_drew (bx_refl wc)
          obtain ⟨wc, hW0⟩ : ∃ W, W = wc.drew := ⟨_, rfl⟩
          rw [← hW0] at bd hH ⊢
          clear hW0
          replace M := hid (M.out.keep bd)
          clear bd
          refine tk 0 hH ?_
          (try simp only [Act.put, gy0, gy1, gy2])
          refine tk 1 hH ?_
          (try simp only [Act.put, gy0, gy1, gy2])
          refine tk 2 hH ?_
          (try simp only [Act.put, gy0, gy1, gy2])
          refine tk 3 hH ?_
          (try simp only [Act.put, gy0, gy1, gy2])
          refine tk 4 hH ?_
          (try simp only [Act.put, gy0, gy1, gy2])
          refine tk 5 hH ?_
          (try simp only [Act.put, gy0, gy1, gy2])
          refine tk 9 hH ?_
          (try simp only [Act.put, gy0, gy1, gy2])
          refine tk 10 hH ?_
          (try simp only [Act.put, gy0, gy1, gy2])
          refine tk 15 hH ?_
          (try simp only [Act.put, gy0, gy1, gy2])
          refine tk 16 hH ?_
          (try simp only [Act.put, gy0, gy1, gy2])
          refine tk 21 hH ?_
          (try simp only [Act.put, gy0, gy1, gy2])
          refine tk 22 hH ?_
          (try simp only [Act.put, gy0, gy1, gy2])
          refine wpAnyH_ready (rs := [6, 14]) (by kernel_rfl) (by simp) ?_
          refine rdy (fun K hK => ?_) ?_
          go_simp
          refine (CG.out _).mono ?_
          rintro e wc ⟨sG, rfl, eG, b⟩
          replace M := hid (M.out.keep b)
          try (replace KN := hid (KN.out.keep b))
          have zG : sG.size ≤ 21 := by rw [size_of eG]; exact lg.out
          have k2 : ¬9223372036854775807 < nj.size + 2 + sG.size := by omega
          have k3 : ¬9223372036854775807 < nj.size + 2 + sG.size + 3 := by omega
          have EG := hid eG
          clear b hH eG
          (try go_wp2_with fail)
          refine hK.out _ _ ?_ (fun hH => ?_)
          · exact blk_fif M.out.r
          clear hK K
          (try simp only [Act.put, gy0, gy1, gy2])
          refine tk 7 hH ?_
          (try simp only [Act.put, gy0, gy1, gy2])
          refine tk 8 hH ?_
          (try simp only [Act.put, gy0, gy1, gy2])
          refine wpAnyH_ready (rs := [11, 14]) (by kernel_rfl) (by simp) ?_
          refine rdy (fun K hK => ?_) ?_
          go_simp
          refine (CT.out _ (BW0.out _ M.out.s.bel)).mono ?_
          rintro e wc ⟨sT, rfl, eT, b⟩
          replace M := hid (M.out.keep b)
          try (replace KN := hid (KN.out.keep b))
          have zT : sT.size ≤ 2000000 := by rw [size_of eT]; exact lt9.out
          have k4 : ¬9223372036854775807 < nj.size + 2 + sG.size + 3 + sT.size := by omega
          have k5 : ¬9223372036854775807 < nj.size + 2 + sG.size + 3 + sT.size + 1 := by omega
          have k6 : ¬9223372036854775807 < nj.size + 2 + sG.size + 3 + sT.size + 1 + rl.size := by omega
          have k7 : ¬9223372036854775807 < nj.size + 2 + sG.size + 3 + sT.size + 1 + rl.size + 1 := by omega
          have ET := hid eT
          clear b hH eT
          (try go_wp2_with fail)
          refine hK.out _ _ ?_ (fun hH => ?_)
          · exact blk_fif M.out.r
          clear hK K
          (try simp only [Act.put, gy0, gy1, gy2])
          refine tk 12 hH ?_
          (try simp only [Act.put, gy0, gy1, gy2])
          refine tk 13 hH ?_
          (try simp only [Act.put, gy0, gy1, gy2])
          refine wpAnyH_ready (rs := [14, 23]) (by kernel_rfl) (by simp) ?_
          refine rdy (fun K hK => ?_) ?_
          go_simp
          obtain ⟨wc, nb, hW, hp, b, kk⟩ := mk_cells wc [.string ⟨#[60, 61]⟩, .string ⟨#[62, 61]⟩, .string ⟨#[61]⟩] 9
          simp only [List.toArray] at hW
          rw [← hW, ← hp]
          clear hW hp hH
          replace M := hid (M.out.keep b)
          have KN := hid kk
          clear kk b
          refine hK.out _ _ ?_ (fun hH => ?_)
          · exact blk_fif M.out.r
          clear hK K
          (try simp only [Act.put, gy0, gy1, gy2])
          refine tk 17 hH ?_
          (try simp only [Act.put, gy0, gy1, gy2])
          refine wpAnyH_ready (rs := [18, 23]) (by kernel_rfl) (by simp) ?_
          refine rdy (fun K hK => ?_) ?_
          have e18 := RC.out _ nb KN.out
          go_simp
          clear e18 hH
          refine hK.out _ _ ?_ (fun hH => ?_)
          · exact blk_fif M.out.r
          clear hK K
          (try simp only [Act.put, gy0, gy1, gy2])
          refine tk 19 hH ?_
          (try simp only [Act.put, gy0, gy1, gy2])
          refine tk 20 hH ?_
          (try simp only [Act.put, gy0, gy1, gy2])
          refine wpAnyH_ready (rs := [23]) (by kernel_rfl) (by simp) ?_
          refine rdy (fun K hK => ?_) ?_
          go_simp
          refine (CB.out _).mono ?_
          rintro e wc ⟨sB, rfl, eB, b⟩
          replace M := hid (M.out.keep b)
          try (replace KN := hid (KN.out.keep b))
          have zB : sB.size ≤ 21 := by rw [size_of eB]; exact lb.out
          have k8 : ¬9223372036854775807 < nj.size + 2 + sG.size + 3 + sT.size + 1 + rl.size + 1 + sB.size := by omega
          have EB := hid eB
          clear b hH eB
          (try go_wp2_with fail)
          refine hK.out _ _ ?_ (fun hH => ?_)
          · exact blk_fif M.out.r
          clear hK K
          (try simp only [Act.put, gy0, gy1, gy2])
          refine tk 24 hH ?_
          (try simp only [Act.put, gy0, gy1, gy2])
          refine wpAnyH_ready (rs := [25]) (by kernel_rfl) (by simp) ?_
          refine rdy (fun K hK => ?_) ?_
          obtain ⟨sX, hsX⟩ : ∃ x, x = nj ++ (⟨#[32, 40]⟩ : ByteArray) ++ sG ++ (⟨#[41, 58, 32]⟩ : ByteArray) ++ sT ++ (⟨#[32]⟩ : ByteArray) ++ rl ++ (⟨#[32]⟩ : ByteArray) ++ sB := ⟨_, rfl⟩
          rw [← hsX]
          have EX := hid hsX
          clear hsX
          go_simp
          obtain ⟨wc, ab9, hW, hp, b, kk⟩ := mk_cells wc [.string sX] 9
          simp only [List.toArray] at hW
          rw [← hW, ← hp]
          clear hW hp hH
          replace M := hid (M.out.keep b)
          have KB := hid kk
          clear kk b
          refine hK.out _ _ ?_ (fun hH => ?_)
          · exact blk_fif M.out.r
          clear hK K
          (try simp only [Act.put, gy0, gy1, gy2])
          refine wpAnyH_ready (rs := [26]) (by kernel_rfl) (by simp) ?_
          refine rdy (fun K hK => ?_) ?_
          rw [if_pos (by rfl)]
          refine wp_append_str (.tmp 71) (.tmp 96) rfl W0.heap.size u3 l rfl M.out.s.own ab9 sX rfl KB.out (by omega) M.out.s.le ?_
          intro v9 w9 ho hg
          have S9 := hid (M.out.s.grow ho hg)
          have R9 := blk_grow M.out.s.own M.out.r (by decide) hg
          clear ho hg hH KB
          refine hK.out _ _ ?_ (fun hH => ?_)
          · exact blk_fif R9
          clear hK K
          (try simp only [Act.put, gy0, gy1, gy2])
          refine tk 27 hH ?_
          (try simp only [Act.put, gy0, gy1, gy2])
          refine wpAnyH_done (by kernel_rfl) ?_ _
          refine NoPanic.normal ?_
          · clear hH
            have TX9 := hid (show sX.data.toList = g j by rw [EX.out, HJ.out]; simp only [catL, EG.out, ET.out, EB.out]; simp)
            clear M KN R9 CG CT CB RC lg lb lt9 EX HJ EG ET EB k1 k2 k3 k4 k5 k6 k7 k8 BW0
            go_wp2_with fail
            refine ⟨⟨j + 1, by omega, rfl, hid ?_⟩, by show rn - ((j : Int) + 1).toNat < rn - (j : Int).toNat; omega⟩
            rw [map_next, ← List.append_assoc]
            exact ln_step S9.out hL0.out TX9.out
          exact AllReadyH.nil
          exact AllReadyH.nil
          exact AllReadyH.nil
          refine rdy (fun K hK => ?_) ?_
          go_simp
          refine (CB.out _).mono ?_
          rintro e wc ⟨sB, rfl, eB, b⟩
          replace M := hid (M.out.keep b)
          try (replace KN := hid (KN.out.keep b))
          have zB : sB.size ≤ 21 := by rw [size_of eB]; exact lb.out
          have k8 : ¬9223372036854775807 < nj.size + 2 + sG.size + 3 + sT.size + 1 + rl.size + 1 + sB.size := by omega
          have EB := hid eB
          clear b hH eB
          (try go_wp2_with fail)
          refine hK.out _ _ ?_ (fun hH => ?_)
          · exact blk_fif M.out.r
          clear hK K
          (try simp only [Act.put, gy0, gy1, gy2])
          refine wpAnyH_ready (rs := [18]) (by kernel_rfl) (by simp) ?_
          refine rdy (fun K hK => ?_) ?_
          have e18 := RC.out _ nb KN.out
          go_simp
          clear e18 hH
          refine hK.out _ _ ?_ (fun hH => ?_)
          · exact blk_fif M.out.r
          clear hK K
          (try simp only [Act.put, gy0, gy1, gy2])
          refine tk 19 hH ?_
          (try simp only [Act.put, gy0, gy1, gy2])
          refine tk 20 hH ?_
          (try simp only [Act.put, gy0, gy1, gy2])
          refine tk 24 hH ?_
          (try simp only [Act.put, gy0, gy1, gy2])
          refine wpAnyH_ready (rs := [25]) (by kernel_rfl) (by simp) ?_
          refine rdy (fun K hK => ?_) ?_
          obtain ⟨sX, hsX⟩ : ∃ x, x = nj ++ (⟨#[32, 40]⟩ : ByteArray) ++ sG ++ (⟨#[41, 58, 32]⟩ : ByteArray) ++ sT ++ (⟨#[32]⟩ : ByteArray) ++ rl ++ (⟨#[32]⟩ : ByteArray) ++ sB := ⟨_, rfl⟩
          rw [← hsX]
          have EX := hid hsX
          clear hsX
          go_simp
          obtain ⟨wc, ab9, hW, hp, b, kk⟩ := mk_cells wc [.string sX] 9
          simp only [List.toArray] at hW
          rw [← hW, ← hp]
          clear hW hp hH
          replace M := hid (M.out.keep b)
          have KB := hid kk
          clear kk b
          refine hK.out _ _ ?_ (fun hH => ?_)
          · exact blk_fif M.out.r
          clear hK K
          (try simp only [Act.put, gy0, gy1, gy2])
          refine wpAnyH_ready (rs := [26]) (by kernel_rfl) (by simp) ?_
          refine rdy (fun K hK => ?_) ?_
          rw [if_pos (by rfl)]
          refine wp_append_str (.tmp 71) (.tmp 96) rfl W0.heap.size u3 l rfl M.out.s.own ab9 sX rfl KB.out (by omega) M.out.s.le ?_
          intro v9 w9 ho hg
          have S9 := hid (M.out.s.grow ho hg)
          have R9 := blk_grow M.out.s.own M.out.r (by decide) hg
          clear ho hg hH KB
          refine hK.out _ _ ?_ (fun hH => ?_)
          · exact blk_fif R9
          clear hK K
          (try simp only [Act.put, gy0, gy1, gy2])
          refine tk 27 hH ?_
          (try simp only [Act.put, gy0, gy1, gy2])
          refine wpAnyH_done (by kernel_rfl) ?_ _
          refine NoPanic.normal ?_
          · clear hH
            have TX9 := hid (show sX.data.toList = g j by rw [EX.out, HJ.out]; simp only [catL, EG.out, ET.out, EB.out]; simp)
            clear M KN R9 CG CT CB RC lg lb lt9 EX HJ EG ET EB k1 k2 k3 k4 k5 k6 k7 k8 BW0
            go_wp2_with fail
            refine ⟨⟨j + 1, by omega, rfl, hid ?_⟩, by show rn - ((j : Int) + 1).toNat < rn - (j : Int).toNat; omega⟩
            rw [map_next, ← List.append_assoc]
            exact ln_step S9.out hL0.out TX9.out
          exact AllReadyH.nil
          exact AllReadyH.nil
          exact AllReadyH.nil
          exact AllReadyH.nil
          refine rdy (fun K hK => ?_) ?_
          go_simp
          refine (CB.out _).mono ?_
          rintro e wc ⟨sB, rfl, eB, b⟩
          replace M := hid (M.out.keep b)
          try (replace KN := hid (KN.out.keep b))
          have zB : sB.size ≤ 21 := by rw [size_of eB]; exact lb.out
          have k8 : ¬9223372036854775807 < nj.size + 2 + sG.size + 3 + sT.size + 1 + rl.size + 1 + sB.size := by omega
          have EB := hid eB
          clear b hH eB
          (try go_wp2_with fail)
          refine hK.out _ _ ?_ (fun hH => ?_)
          · exact blk_fif M.out.r
          clear hK K
          (try simp only [Act.put, gy0, gy1, gy2])
          refine wpAnyH_ready (rs := [14]) (by kernel_rfl) (by simp) ?_
          refine rdy (fun K hK => ?_) ?_
          go_simp
          obtain ⟨wc, nb, hW, hp, b, kk⟩ := mk_cells wc [.string ⟨#[60, 61]⟩, .string ⟨#[62, 61]⟩, .string ⟨#[61]⟩] 9
          simp only [List.toArray] at hW
          rw [← hW, ← hp]
          clear hW hp hH
          replace M := hid (M.out.keep b)
          have KN := hid kk
          clear kk b
          refine hK.out _ _ ?_ (fun hH => ?_)
          · exact blk_fif M.out.r
          clear hK K
          (try simp only [Act.put, gy0, gy1, gy2])
          refine tk 17 hH ?_
          (try simp only [Act.put, gy0, gy1, gy2])
          refine wpAnyH_ready (rs := [18]) (by kernel_rfl) (by simp) ?_
          refine rdy (fun K hK => ?_) ?_
          have e18 := RC.out _ nb KN.out
          go_simp
          clear e18 hH
          refine hK.out _ _ ?_ (fun hH => ?_)
          · exact blk_fif M.out.r
          clear hK K
          (try simp only [Act.put, gy0, gy1, gy2])
          refine tk 19 hH ?_
          (try simp only [Act.put, gy0, gy1, gy2])
          refine tk 20 hH ?_
          (try simp only [Act.put, gy0, gy1, gy2])
          refine tk 24 hH ?_
          (try simp only [Act.put, gy0, gy1, gy2])
          refine wpAnyH_ready (rs := [25]) (by kernel_rfl) (by simp) ?_
          refine rdy (fun K hK => ?_) ?_
          obtain ⟨sX, hsX⟩ : ∃ x, x = nj ++ (⟨#[32, 40]⟩ : ByteArray) ++ sG ++ (⟨#[41, 58, 32]⟩ : ByteArray) ++ sT ++ (⟨#[32]⟩ : ByteArray) ++ rl ++ (⟨#[32]⟩ : ByteArray) ++ sB := ⟨_, rfl⟩
          rw [← hsX]
          have EX := hid hsX
          clear hsX
          go_simp
          obtain ⟨wc, ab9, hW, hp, b, kk⟩ := mk_cells wc [.string sX] 9
          simp only [List.toArray] at hW
          rw [← hW, ← hp]
          clear hW hp hH
          replace M := hid (M.out.keep b)
          have KB := hid kk
          clear kk b
          refine hK.out _ _ ?_ (fun hH => ?_)
          · exact blk_fif M.out.r
          clear hK K
          (try simp only [Act.put, gy0, gy1, gy2])
          refine wpAnyH_ready (rs := [26]) (by kernel_rfl) (by simp) ?_
          refine rdy (fun K hK => ?_) ?_
          rw [if_pos (by rfl)]
          refine wp_append_str (.tmp 71) (.tmp 96) rfl W0.heap.size u3 l rfl M.out.s.own ab9 sX rfl KB.out (by omega) M.out.s.le ?_
          intro v9 w9 ho hg
          have S9 := hid (M.out.s.grow ho hg)
          have R9 := blk_grow M.out.s.own M.out.r (by decide) hg
          clear ho hg hH KB
          refine hK.out _ _ ?_ (fun hH => ?_)
          · exact blk_fif R9
          clear hK K
          (try simp only [Act.put, gy0, gy1, gy2])
          refine tk 27 hH ?_
          (try simp only [Act.put, gy0, gy1, gy2])
          refine wpAnyH_done (by kernel_rfl) ?_ _
          refine NoPanic.normal ?_
          · clear hH
            have TX9 := hid (show sX.data.toList = g j by rw [EX.out, HJ.out]; simp only [catL, EG.out, ET.out, EB.out]; simp)
            clear M KN R9 CG CT CB RC lg lb lt9 EX HJ EG ET EB k1 k2 k3 k4 k5 k6 k7 k8 BW0
            go_wp2_with fail
            refine ⟨⟨j + 1, by omega, rfl, hid ?_⟩, by show rn - ((j : Int) + 1).toNat < rn - (j : Int).toNat; omega⟩
            rw [map_next, ← List.append_assoc]
            exact ln_step S9.out hL0.out TX9.out
          exact AllReadyH.nil
          exact AllReadyH.nil
          exact AllReadyH.nil
          exact AllReadyH.nil
          exact AllReadyH.nil
          refine rdy (fun K hK => ?_) ?_
          go_simp
          obtain ⟨wc, nb, hW, hp, b, kk⟩ := mk_cells wc [.string ⟨#[60, 61]⟩, .string ⟨#[62, 61]⟩, .string ⟨#[61]⟩] 9
          simp only [List.toArray] at hW
          rw [← hW, ← hp]
          clear hW hp hH
          replace M := hid (M.out.keep b)
          have KN := hid kk
          clear kk b
          refine hK.out _ _ ?_ (fun hH => ?_)
          · exact blk_fif M.out.r
          clear hK K
          (try simp only [Act.put, gy0, gy1, gy2])
          refine tk 17 hH ?_
          (try simp only [Act.put, gy0, gy1, gy2])
          refine wpAnyH_ready (rs := [11, 18]) (by kernel_rfl) (by simp) ?_
          refine rdy (fun K hK => ?_) ?_
          go_simp
          refine (CT.out _ (BW0.out _ M.out.s.bel)).mono ?_
          rintro e wc ⟨sT, rfl, eT, b⟩
          replace M := hid (M.out.keep b)
          try (replace KN := hid (KN.out.keep b))
          have zT : sT.size ≤ 2000000 := by rw [size_of eT]; exact lt9.out
          have k4 : ¬9223372036854775807 < nj.size + 2 + sG.size + 3 + sT.size := by omega
          have k5 : ¬9223372036854775807 < nj.size + 2 + sG.size + 3 + sT.size + 1 := by omega
          have k6 : ¬9223372036854775807 < nj.size + 2 + sG.size + 3 + sT.size + 1 + rl.size := by omega
          have k7 : ¬9223372036854775807 < nj.size + 2 + sG.size + 3 + sT.size + 1 + rl.size + 1 := by omega
          have ET := hid eT
          clear b hH eT
          (try go_wp2_with fail)
          refine hK.out _ _ ?_ (fun hH => ?_)
          · exact blk_fif M.out.r
          clear hK K
          (try simp only [Act.put, gy0, gy1, gy2])
          refine tk 12 hH ?_
          (try simp only [Act.put, gy0, gy1, gy2])
          refine tk 13 hH ?_
          (try simp only [Act.put, gy0, gy1, gy2])
          refine wpAnyH_ready (rs := [18, 23]) (by kernel_rfl) (by simp) ?_
          refine rdy (fun K hK => ?_) ?_
          have e18 := RC.out _ nb KN.out
          go_simp
          clear e18 hH
          refine hK.out _ _ ?_ (fun hH => ?_)
          · exact blk_fif M.out.r
          clear hK K
          (try simp only [Act.put, gy0, gy1, gy2])
          refine tk 19 hH ?_
          (try simp only [Act.put, gy0, gy1, gy2])
          refine tk 20 hH ?_
          (try simp only [Act.put, gy0, gy1, gy2])
          refine wpAnyH_ready (rs := [23]) (by kernel_rfl) (by simp) ?_
          refine rdy (fun K hK => ?_) ?_
          go_simp
          refine (CB.out _).mono ?_
          rintro e wc ⟨sB, rfl, eB, b⟩
          replace M := hid (M.out.keep b)
          try (replace KN := hid (KN.out.keep b))
          have zB : sB.size ≤ 21 := by rw [size_of eB]; exact lb.out
          have k8 : ¬9223372036854775807 < nj.size + 2 + sG.size + 3 + sT.size + 1 + rl.size + 1 + sB.size := by omega
          have EB := hid eB
          clear b hH eB
          (try go_wp2_with fail)
          refine hK.out _ _ ?_ (fun hH => ?_)
          · exact blk_fif M.out.r
          clear hK K
          (try simp only [Act.put, gy0, gy1, gy2])
          refine tk 24 hH ?_
          (try simp only [Act.put, gy0, gy1, gy2])
          refine wpAnyH_ready (rs := [25]) (by kernel_rfl) (by simp) ?_
          refine rdy (fun K hK => ?_) ?_
          obtain ⟨sX, hsX⟩ : ∃ x, x = nj ++ (⟨#[32, 40]⟩ : ByteArray) ++ sG ++ (⟨#[41, 58, 32]⟩ : ByteArray) ++ sT ++ (⟨#[32]⟩ : ByteArray) ++ rl ++ (⟨#[32]⟩ : ByteArray) ++ sB := ⟨_, rfl⟩
          rw [← hsX]
          have EX := hid hsX
          clear hsX
          go_simp
          obtain ⟨wc, ab9, hW, hp, b, kk⟩ := mk_cells wc [.string sX] 9
          simp only [List.toArray] at hW
          rw [← hW, ← hp]
          clear hW hp hH
          replace M := hid (M.out.keep b)
          have KB := hid kk
          clear kk b
          refine hK.out _ _ ?_ (fun hH => ?_)
          · exact blk_fif M.out.r
          clear hK K
          (try simp only [Act.put, gy0, gy1, gy2])
          refine wpAnyH_ready (rs := [26]) (by kernel_rfl) (by simp) ?_
          refine rdy (fun K hK => ?_) ?_
          rw [if_pos (by rfl)]
          refine wp_append_str (.tmp 71) (.tmp 96) rfl W0.heap.size u3 l rfl M.out.s.own ab9 sX rfl KB.out (by omega) M.out.s.le ?_
          intro v9 w9 ho hg
          have S9 := hid (M.out.s.grow ho hg)
          have R9 := blk_grow M.out.s.own M.out.r (by decide) hg
          clear ho hg hH KB
          refine hK.out _ _ ?_ (fun hH => ?_)
          · exact blk_fif R9
          clear hK K
          (try simp only [Act.put, gy0, gy1, gy2])
          refine tk 27 hH ?_
          (try simp only [Act.put, gy0, gy1, gy2])
          refine wpAnyH_done (by kernel_rfl) ?_ _
          refine NoPanic.normal ?_
          · clear hH
            have TX9 := hid (show sX.data.toList = g j by rw [EX.out, HJ.out]; simp only [catL, EG.out, ET.out, EB.out]; simp)
            clear M KN R9 CG CT CB RC lg lb lt9 EX HJ EG ET EB k1 k2 k3 k4 k5 k6 k7 k8 BW0
            go_wp2_with fail
            refine ⟨⟨j + 1, by omega, rfl, hid ?_⟩, by show rn - ((j : Int) + 1).toNat < rn - (j : Int).toNat; omega⟩
            rw [map_next, ← List.append_assoc]
            exact ln_step S9.out hL0.out TX9.out
          exact AllReadyH.nil
          exact AllReadyH.nil
          exact AllReadyH.nil
          refine rdy (fun K hK => ?_) ?_
          go_simp
          refine (CB.out _).mono ?_
          rintro e wc ⟨sB, rfl, eB, b⟩
          replace M := hid (M.out.keep b)
          try (replace KN := hid (KN.out.keep b))
          have zB : sB.size ≤ 21 := by rw [size_of eB]; exact lb.out
          have k8 : ¬9223372036854775807 < nj.size + 2 + sG.size + 3 + sT.size + 1 + rl.size + 1 + sB.size := by omega
          have EB := hid eB
          clear b hH eB
          (try go_wp2_with fail)
          refine hK.out _ _ ?_ (fun hH => ?_)
          · exact blk_fif M.out.r
          clear hK K
          (try simp only [Act.put, gy0, gy1, gy2])
          refine wpAnyH_ready (rs := [18]) (by kernel_rfl) (by simp) ?_
          refine rdy (fun K hK => ?_) ?_
          have e18 := RC.out _ nb KN.out
          go_simp
          clear e18 hH
          refine hK.out _ _ ?_ (fun hH => ?_)
          · exact blk_fif M.out.r
          clear hK K
          (try simp only [Act.put, gy0, gy1, gy2])
          refine tk 19 hH ?_
          (try simp only [Act.put, gy0, gy1, gy2])
          refine tk 20 hH ?_
          (try simp only [Act.put, gy0, gy1, gy2])
          refine tk 24 hH ?_
          (try simp only [Act.put, gy0, gy1, gy2])
          refine wpAnyH_ready (rs := [25]) (by kernel_rfl) (by simp) ?_
          refine rdy (fun K hK => ?_) ?_
          obtain ⟨sX, hsX⟩ : ∃ x, x = nj ++ (⟨#[32, 40]⟩ : ByteArray) ++ sG ++ (⟨#[41, 58, 32]⟩ : ByteArray) ++ sT ++ (⟨#[32]⟩ : ByteArray) ++ rl ++ (⟨#[32]⟩ : ByteArray) ++ sB := ⟨_, rfl⟩
          rw [← hsX]
          have EX := hid hsX
          clear hsX
          go_simp
          obtain ⟨wc, ab9, hW, hp, b, kk⟩ := mk_cells wc [.string sX] 9
          simp only [List.toArray] at hW
          rw [← hW, ← hp]
          clear hW hp hH
          replace M := hid (M.out.keep b)
          have KB := hid kk
          clear kk b
          refine hK.out _ _ ?_ (fun hH => ?_)
          · exact blk_fif M.out.r
          clear hK K
          (try simp only [Act.put, gy0, gy1, gy2])
          refine wpAnyH_ready (rs := [26]) (by kernel_rfl) (by simp) ?_
          refine rdy (fun K hK => ?_) ?_
          rw [if_pos (by rfl)]
          refine wp_append_str (.tmp 71) (.tmp 96) rfl W0.heap.size u3 l rfl M.out.s.own ab9 sX rfl KB.out (by omega) M.out.s.le ?_
          intro v9 w9 ho hg
          have S9 := hid (M.out.s.grow ho hg)
          have R9 := blk_grow M.out.s.own M.out.r (by decide) hg
          clear ho hg hH KB
          refine hK.out _ _ ?_ (fun hH => ?_)
          · exact blk_fif R9
          clear hK K
          (try simp only [Act.put, gy0, gy1, gy2])
          refine tk 27 hH ?_
          (try simp only [Act.put, gy0, gy1, gy2])
          refine wpAnyH_done (by kernel_rfl) ?_ _
          refine NoPanic.normal ?_
          · clear hH
            have TX9 := hid (show sX.data.toList = g j by rw [EX.out, HJ.out]; simp only [catL, EG.out, ET.out, EB.out]; simp)
            clear M KN R9 CG CT CB RC lg lb lt9 EX HJ EG ET EB k1 k2 k3 k4 k5 k6 k7 k8 BW0
            go_wp2_with fail
            refine ⟨⟨j + 1, by omega, rfl, hid ?_⟩, by show rn - ((j : Int) + 1).toNat < rn - (j : Int).toNat; omega⟩
            rw [map_next, ← List.append_assoc]
            exact ln_step S9.out hL0.out TX9.out
          exact AllReadyH.nil
          exact AllReadyH.nil
          exact AllReadyH.nil
          exact AllReadyH.nil
          refine rdy (fun K hK => ?_) ?_
          have e18 := RC.out _ nb KN.out
          go_simp
          clear e18 hH
          refine hK.out _ _ ?_ (fun hH => ?_)
          · exact blk_fif M.out.r
          clear hK K
          (try simp only [Act.put, gy0, gy1, gy2])
          refine wpAnyH_ready (rs := [11]) (by kernel_rfl) (by simp) ?_
          refine rdy (fun K hK => ?_) ?_
          go_simp
          refine (CT.out _ (BW0.out _ M.out.s.bel)).mono ?_
          rintro e wc ⟨sT, rfl, eT, b⟩
          replace M := hid (M.out.keep b)
          try (replace KN := hid (KN.out.keep b))
          have zT : sT.size ≤ 2000000 := by rw [size_of eT]; exact lt9.out
          have k4 : ¬9223372036854775807 < nj.size + 2 + sG.size + 3 + sT.size := by omega
          have k5 : ¬9223372036854775807 < nj.size + 2 + sG.size + 3 + sT.size + 1 := by omega
          have k6 : ¬9223372036854775807 < nj.size + 2 + sG.size + 3 + sT.size + 1 + rl.size := by omega
          have k7 : ¬9223372036854775807 < nj.size + 2 + sG.size + 3 + sT.size + 1 + rl.size + 1 := by omega
          have ET := hid eT
          clear b hH eT
          (try go_wp2_with fail)
          refine hK.out _ _ ?_ (fun hH => ?_)
          · exact blk_fif M.out.r
          clear hK K
          (try simp only [Act.put, gy0, gy1, gy2])
          refine tk 12 hH ?_
          (try simp only [Act.put, gy0, gy1, gy2])
          refine tk 13 hH ?_
          (try simp only [Act.put, gy0, gy1, gy2])
          refine tk 19 hH ?_
          (try simp only [Act.put, gy0, gy1, gy2])
          refine tk 20 hH ?_
          (try simp only [Act.put, gy0, gy1, gy2])
          refine wpAnyH_ready (rs := [23]) (by kernel_rfl) (by simp) ?_
          refine rdy (fun K hK => ?_) ?_
          go_simp
          refine (CB.out _).mono ?_
          rintro e wc ⟨sB, rfl, eB, b⟩
          replace M := hid (M.out.keep b)
          try (replace KN := hid (KN.out.keep b))
          have zB : sB.size ≤ 21 := by rw [size_of eB]; exact lb.out
          have k8 : ¬9223372036854775807 < nj.size + 2 + sG.size + 3 + sT.size + 1 + rl.size + 1 + sB.size := by omega
          have EB := hid eB
          clear b hH eB
          (try go_wp2_with fail)
          refine hK.out _ _ ?_ (fun hH => ?_)
          · exact blk_fif M.out.r
          clear hK K
          (try simp only [Act.put, gy0, gy1, gy2])
          refine tk 24 hH ?_
          (try simp only [Act.put, gy0, gy1, gy2])
          refine wpAnyH_ready (rs := [25]) (by kernel_rfl) (by simp) ?_
          refine rdy (fun K hK => ?_) ?_
          obtain ⟨sX, hsX⟩ : ∃ x, x = nj ++ (⟨#[32, 40]⟩ : ByteArray) ++ sG ++ (⟨#[41, 58, 32]⟩ : ByteArray) ++ sT ++ (⟨#[32]⟩ : ByteArray) ++ rl ++ (⟨#[32]⟩ : ByteArray) ++ sB := ⟨_, rfl⟩
          rw [← hsX]
          have EX := hid hsX
          clear hsX
          go_simp
          obtain ⟨wc, ab9, hW, hp, b, kk⟩ := mk_cells wc [.string sX] 9
          simp only [List.toArray] at hW
          rw [← hW, ← hp]
          clear hW hp hH
          replace M := hid (M.out.keep b)
          have KB := hid kk
          clear kk b
          refine hK.out _ _ ?_ (fun hH => ?_)
          · exact blk_fif M.out.r
          clear hK K
          (try simp only [Act.put, gy0, gy1, gy2])
          refine wpAnyH_ready (rs := [26]) (by kernel_rfl) (by simp) ?_
          refine rdy (fun K hK => ?_) ?_
          rw [if_pos (by rfl)]
          refine wp_append_str (.tmp 71) (.tmp 96) rfl W0.heap.size u3 l rfl M.out.s.own ab9 sX rfl KB.out (by omega) M.out.s.le ?_
          intro v9 w9 ho hg
          have S9 := hid (M.out.s.grow ho hg)
          have R9 := blk_grow M.out.s.own M.out.r (by decide) hg
          clear ho hg hH KB
          refine hK.out _ _ ?_ (fun hH => ?_)
          · exact blk_fif R9
          clear hK K
          (try simp only [Act.put, gy0, gy1, gy2])
          refine tk 27 hH ?_
          (try simp only [Act.put, gy0, gy1, gy2])
          refine wpAnyH_done (by kernel_rfl) ?_ _
          refine NoPanic.normal ?_
          · clear hH
            have TX9 := hid (show sX.data.toList = g j by rw [EX.out, HJ.out]; simp only [catL, EG.out, ET.out, EB.out]; simp)
            clear M KN R9 CG CT CB RC lg lb lt9 EX HJ EG ET EB k1 k2 k3 k4 k5 k6 k7 k8 BW0
            go_wp2_with fail
            refine ⟨⟨j + 1, by omega, rfl, hid ?_⟩, by show rn - ((j : Int) + 1).toNat < rn - (j : Int).toNat; omega⟩
            rw [map_next, ← List.append_assoc]
            exact ln_step S9.out hL0.out TX9.out
          exact AllReadyH.nil
          exact AllReadyH.nil
          exact AllReadyH.nil
          exact AllReadyH.nil
          exact AllReadyH.nil
          exact AllReadyH.nil
          refine rdy (fun K hK => ?_) ?_
          go_simp
          obtain ⟨wc, nb, hW, hp, b, kk⟩ := mk_cells wc [.string ⟨#[60, 61]⟩, .string ⟨#[62, 61]⟩, .string ⟨#[61]⟩] 9
          simp only [List.toArray] at hW
          rw [← hW, ← hp]
          clear hW hp hH
          replace M := hid (M.out.keep b)
          have KN := hid kk
          clear kk b
          refine hK.out _ _ ?_ (fun hH => ?_)
          · exact blk_fif M.out.r
          clear hK K
          (try simp only [Act.put, gy0, gy1, gy2])
          refine tk 17 hH ?_
          (try simp only [Act.put, gy0, gy1, gy2])
          refine wpAnyH_ready (rs := [6, 18]) (by kernel_rfl) (by simp) ?_
          refine rdy (fun K hK => ?_) ?_
          go_simp
          refine (CG.out _).mono ?_
          rintro e wc ⟨sG, rfl, eG, b⟩
          replace M := hid (M.out.keep b)
          try (replace KN := hid (KN.out.keep b))
          have zG : sG.size ≤ 21 := by rw [size_of eG]; exact lg.out
          have k2 : ¬9223372036854775807 < nj.size + 2 + sG.size := by omega
          have k3 : ¬9223372036854775807 < nj.size + 2 + sG.size + 3 := by omega
          have EG := hid eG
          clear b hH eG
          (try go_wp2_with fail)
          refine hK.out _ _ ?_ (fun hH => ?_)
          · exact blk_fif M.out.r
          clear hK K
          (try simp only [Act.put, gy0, gy1, gy2])
          refine tk 7 hH ?_
          (try simp only [Act.put, gy0, gy1, gy2])
          refine tk 8 hH ?_
          (try simp only [Act.put, gy0, gy1, gy2])
          refine wpAnyH_ready (rs := [11, 18]) (by kernel_rfl) (by simp) ?_
          refine rdy (fun K hK => ?_) ?_
          go_simp
          refine (CT.out _ (BW0.out _ M.out.s.bel)).mono ?_
          rintro e wc ⟨sT, rfl, eT, b⟩
          replace M := hid (M.out.keep b)
          try (replace KN := hid (KN.out.keep b))
          have zT : sT.size ≤ 2000000 := by rw [size_of eT]; exact lt9.out
          have k4 : ¬9223372036854775807 < nj.size + 2 + sG.size + 3 + sT.size := by omega
          have k5 : ¬9223372036854775807 < nj.size + 2 + sG.size + 3 + sT.size + 1 := by omega
          have k6 : ¬9223372036854775807 < nj.size + 2 + sG.size + 3 + sT.size + 1 + rl.size := by omega
          have k7 : ¬9223372036854775807 < nj.size + 2 + sG.size + 3 + sT.size + 1 + rl.size + 1 := by omega
          have ET := hid eT
          clear b hH eT
          (try go_wp2_with fail)
          refine hK.out _ _ ?_ (fun hH => ?_)
          · exact blk_fif M.out.r
          clear hK K
          (try simp only [Act.put, gy0, gy1, gy2])
          refine tk 12 hH ?_
          (try simp only [Act.put, gy0, gy1, gy2])
          refine tk 13 hH ?_
          (try simp only [Act.put, gy0, gy1, gy2])
          refine wpAnyH_ready (rs := [18, 23]) (by kernel_rfl) (by simp) ?_
          refine rdy (fun K hK => ?_) ?_
          have e18 := RC.out _ nb KN.out
          go_simp
          clear e18 hH
          refine hK.out _ _ ?_ (fun hH => ?_)
          · exact blk_fif M.out.r
          clear hK K
          (try simp only [Act.put, gy0, gy1, gy2])
          refine tk 19 hH ?_
          (try simp only [Act.put, gy0, gy1, gy2])
          refine tk 20 hH ?_
          (try simp only [Act.put, gy0, gy1, gy2])
          refine wpAnyH_ready (rs := [23]) (by kernel_rfl) (by simp) ?_
          refine rdy (fun K hK => ?_) ?_
          go_simp
          refine (CB.out _).mono ?_
          rintro e wc ⟨sB, rfl, eB, b⟩
          replace M := hid (M.out.keep b)
          try (replace KN := hid (KN.out.keep b))
          have zB : sB.size ≤ 21 := by rw [size_of eB]; exact lb.out
          have k8 : ¬9223372036854775807 < nj.size + 2 + sG.size + 3 + sT.size + 1 + rl.size + 1 + sB.size := by omega
          have EB := hid eB
          clear b hH eB
          (try go_wp2_with fail)
          refine hK.out _ _ ?_ (fun hH => ?_)
          · exact blk_fif M.out.r
          clear hK K
          (try simp only [Act.put, gy0, gy1, gy2])
          refine tk 24 hH ?_
          (try simp only [Act.put, gy0, gy1, gy2])
          refine wpAnyH_ready (rs := [25]) (by kernel_rfl) (by simp) ?_
          refine rdy (fun K hK => ?_) ?_
          obtain ⟨sX, hsX⟩ : ∃ x, x = nj ++ (⟨#[32, 40]⟩ : ByteArray) ++ sG ++ (⟨#[41, 58, 32]⟩ : ByteArray) ++ sT ++ (⟨#[32]⟩ : ByteArray) ++ rl ++ (⟨#[32]⟩ : ByteArray) ++ sB := ⟨_, rfl⟩
          rw [← hsX]
          have EX := hid hsX
          clear hsX
          go_simp
          obtain ⟨wc, ab9, hW, hp, b, kk⟩ := mk_cells wc [.string sX] 9
          simp only [List.toArray] at hW
          rw [← hW, ← hp]
          clear hW hp hH
          replace M := hid (M.out.keep b)
          have KB := hid kk
          clear kk b
          refine hK.out _ _ ?_ (fun hH => ?_)
          · exact blk_fif M.out.r
          clear hK K
          (try simp only [Act.put, gy0, gy1, gy2])
          refine wpAnyH_ready (rs := [26]) (by kernel_rfl) (by simp) ?_
          refine rdy (fun K hK => ?_) ?_
          rw [if_pos (by rfl)]
          refine wp_append_str (.tmp 71) (.tmp 96) rfl W0.heap.size u3 l rfl M.out.s.own ab9 sX rfl KB.out (by omega) M.out.s.le ?_
          intro v9 w9 ho hg
          have S9 := hid (M.out.s.grow ho hg)
          have R9 := blk_grow M.out.s.own M.out.r (by decide) hg
          clear ho hg hH KB
          refine hK.out _ _ ?_ (fun hH => ?_)
          · exact blk_fif R9
          clear hK K
          (try simp only [Act.put, gy0, gy1, gy2])
          refine tk 27 hH ?_
          (try simp only [Act.put, gy0, gy1, gy2])
          refine wpAnyH_done (by kernel_rfl) ?_ _
          refine NoPanic.normal ?_
          · clear hH
            have TX9 := hid (show sX.data.toList = g j by rw [EX.out, HJ.out]; simp only [catL, EG.out, ET.out, EB.out]; simp)
            clear M KN R9 CG CT CB RC lg lb lt9 EX HJ EG ET EB k1 k2 k3 k4 k5 k6 k7 k8 BW0
            go_wp2_with fail
            refine ⟨⟨j + 1, by omega, rfl, hid ?_⟩, by show rn - ((j : Int) + 1).toNat < rn - (j : Int).toNat; omega⟩
            rw [map_next, ← List.append_assoc]
            exact ln_step S9.out hL0.out TX9.out
          exact AllReadyH.nil
          exact AllReadyH.nil
          exact AllReadyH.nil
          refine rdy (fun K hK => ?_) ?_
          go_simp
          refine (CB.out _).mono ?_
          rintro e wc ⟨sB, rfl, eB, b⟩
          replace M := hid (M.out.keep b)
          try (replace KN := hid (KN.out.keep b))
          have zB : sB.size ≤ 21 := by rw [size_of eB]; exact lb.out
          have k8 : ¬9223372036854775807 < nj.size + 2 + sG.size + 3 + sT.size + 1 + rl.size + 1 + sB.size := by omega
          have EB := hid eB
          clear b hH eB
          (try go_wp2_with fail)
          refine hK.out _ _ ?_ (fun hH => ?_)
          · exact blk_fif M.out.r
          clear hK K
          (try simp only [Act.put, gy0, gy1, gy2])
          refine wpAnyH_ready (rs := [18]) (by kernel_rfl) (by simp) ?_
          refine rdy (fun K hK => ?_) ?_
          have e18 := RC.out _ nb KN.out
          go_simp
          clear e18 hH
          refine hK.out _ _ ?_ (fun hH => ?_)
          · exact blk_fif M.out.r
          clear hK K
          (try simp only [Act.put, gy0, gy1, gy2])
          refine tk 19 hH ?_
          (try simp only [Act.put, gy0, gy1, gy2])
          refine tk 20 hH ?_
          (try simp only [Act.put, gy0, gy1, gy2])
          refine tk 24 hH ?_
          (try simp only [Act.put, gy0, gy1, gy2])
          refine wpAnyH_ready (rs := [25]) (by kernel_rfl) (by simp) ?_
          refine rdy (fun K hK => ?_) ?_
          obtain ⟨sX, hsX⟩ : ∃ x, x = nj ++ (⟨#[32, 40]⟩ : ByteArray) ++ sG ++ (⟨#[41, 58, 32]⟩ : ByteArray) ++ sT ++ (⟨#[32]⟩ : ByteArray) ++ rl ++ (⟨#[32]⟩ : ByteArray) ++ sB := ⟨_, rfl⟩
          rw [← hsX]
          have EX := hid hsX
          clear hsX
          go_simp
          obtain ⟨wc, ab9, hW, hp, b, kk⟩ := mk_cells wc [.string sX] 9
          simp only [List.toArray] at hW
          rw [← hW, ← hp]
          clear hW hp hH
          replace M := hid (M.out.keep b)
          have KB := hid kk
          clear kk b
          refine hK.out _ _ ?_ (fun hH => ?_)
          · exact blk_fif M.out.r
          clear hK K
          (try simp only [Act.put, gy0, gy1, gy2])
          refine wpAnyH_ready (rs := [26]) (by kernel_rfl) (by simp) ?_
          refine rdy (fun K hK => ?_) ?_
          rw [if_pos (by rfl)]
          refine wp_append_str (.tmp 71) (.tmp 96) rfl W0.heap.size u3 l rfl M.out.s.own ab9 sX rfl KB.out (by omega) M.out.s.le ?_
          intro v9 w9 ho hg
          have S9 := hid (M.out.s.grow ho hg)
          have R9 := blk_grow M.out.s.own M.out.r (by decide) hg
          clear ho hg hH KB
          refine hK.out _ _ ?_ (fun hH => ?_)
          · exact blk_fif R9
          clear hK K
          (try simp only [Act.put, gy0, gy1, gy2])
          refine tk 27 hH ?_
          (try simp only [Act.put, gy0, gy1, gy2])
          refine wpAnyH_done (by kernel_rfl) ?_ _
          refine NoPanic.normal ?_
          · clear hH
            have TX9 := hid (show sX.data.toList = g j by rw [EX.out, HJ.out]; simp only [catL, EG.out, ET.out, EB.out]; simp)
            clear M KN R9 CG CT CB RC lg lb lt9 EX HJ EG ET EB k1 k2 k3 k4 k5 k6 k7 k8 BW0
            go_wp2_with fail
            refine ⟨⟨j + 1, by omega, rfl, hid ?_⟩, by show rn - ((j : Int) + 1).toNat < rn - (j : Int).toNat; omega⟩
            rw [map_next, ← List.append_assoc]
            exact ln_step S9.out hL0.out TX9.out
          exact AllReadyH.nil
          exact AllReadyH.nil
          exact AllReadyH.nil
          exact AllReadyH.nil
          refine rdy (fun K hK => ?_) ?_
          have e18 := RC.out _ nb KN.out
          go_simp
          clear e18 hH
          refine hK.out _ _ ?_ (fun hH => ?_)
          · exact blk_fif M.out.r
          clear hK K
          (try simp only [Act.put, gy0, gy1, gy2])
          refine wpAnyH_ready (rs := [11]) (by kernel_rfl) (by simp) ?_
          refine rdy (fun K hK => ?_) ?_
          go_simp
          refine (CT.out _ (BW0.out _ M.out.s.bel)).mono ?_
          rintro e wc ⟨sT, rfl, eT, b⟩
          replace M := hid (M.out.keep b)
          try (replace KN := hid (KN.out.keep b))
          have zT : sT.size ≤ 2000000 := by rw [size_of eT]; exact lt9.out
          have k4 : ¬9223372036854775807 < nj.size + 2 + sG.size + 3 + sT.size := by omega
          have k5 : ¬9223372036854775807 < nj.size + 2 + sG.size + 3 + sT.size + 1 := by omega
          have k6 : ¬9223372036854775807 < nj.size + 2 + sG.size + 3 + sT.size + 1 + rl.size := by omega
          have k7 : ¬9223372036854775807 < nj.size + 2 + sG.size + 3 + sT.size + 1 + rl.size + 1 := by omega
          have ET := hid eT
          clear b hH eT
          (try go_wp2_with fail)
          refine hK.out _ _ ?_ (fun hH => ?_)
          · exact blk_fif M.out.r
          clear hK K
          (try simp only [Act.put, gy0, gy1, gy2])
          refine tk 12 hH ?_
          (try simp only [Act.put, gy0, gy1, gy2])
          refine tk 13 hH ?_
          (try simp only [Act.put, gy0, gy1, gy2])
          refine tk 19 hH ?_
          (try simp only [Act.put, gy0, gy1, gy2])
          refine tk 20 hH ?_
          (try simp only [Act.put, gy0, gy1, gy2])
          refine wpAnyH_ready (rs := [23]) (by kernel_rfl) (by simp) ?_
          refine rdy (fun K hK => ?_) ?_
          go_simp
          refine (CB.out _).mono ?_
          rintro e wc ⟨sB, rfl, eB, b⟩
          replace M := hid (M.out.keep b)
          try (replace KN := hid (KN.out.keep b))
          have zB : sB.size ≤ 21 := by rw [size_of eB]; exact lb.out
          have k8 : ¬9223372036854775807 < nj.size + 2 + sG.size + 3 + sT.size + 1 + rl.size + 1 + sB.size := by omega
          have EB := hid eB
          clear b hH eB
          (try go_wp2_with fail)
          refine hK.out _ _ ?_ (fun hH => ?_)
          · exact blk_fif M.out.r
          clear hK K
          (try simp only [Act.put, gy0, gy1, gy2])
          refine tk 24 hH ?_
          (try simp only [Act.put, gy0, gy1, gy2])
          refine wpAnyH_ready (rs := [25]) (by kernel_rfl) (by simp) ?_
          refine rdy (fun K hK => ?_) ?_
          obtain ⟨sX, hsX⟩ : ∃ x, x = nj ++ (⟨#[32, 40]⟩ : ByteArray) ++ sG ++ (⟨#[41, 58, 32]⟩ : ByteArray) ++ sT ++ (⟨#[32]⟩ : ByteArray) ++ rl ++ (⟨#[32]⟩ : ByteArray) ++ sB := ⟨_, rfl⟩
          rw [← hsX]
          have EX := hid hsX
          clear hsX
          go_simp
          obtain ⟨wc, ab9, hW, hp, b, kk⟩ := mk_cells wc [.string sX] 9
          simp only [List.toArray] at hW
          rw [← hW, ← hp]
          clear hW hp hH
          replace M := hid (M.out.keep b)
          have KB := hid kk
          clear kk b
          refine hK.out _ _ ?_ (fun hH => ?_)
          · exact blk_fif M.out.r
          clear hK K
          (try simp only [Act.put, gy0, gy1, gy2])
          refine wpAnyH_ready (rs := [26]) (by kernel_rfl) (by simp) ?_
          refine rdy (fun K hK => ?_) ?_
          rw [if_pos (by rfl)]
          refine wp_append_str (.tmp 71) (.tmp 96) rfl W0.heap.size u3 l rfl M.out.s.own ab9 sX rfl KB.out (by omega) M.out.s.le ?_
          intro v9 w9 ho hg
          have S9 := hid (M.out.s.grow ho hg)
          have R9 := blk_grow M.out.s.own M.out.r (by decide) hg
          clear ho hg hH KB
          refine hK.out _ _ ?_ (fun hH => ?_)
          · exact blk_fif R9
          clear hK K
          (try simp only [Act.put, gy0, gy1, gy2])
          refine tk 27 hH ?_
          (try simp only [Act.put, gy0, gy1, gy2])
          refine wpAnyH_done (by kernel_rfl) ?_ _
          refine NoPanic.normal ?_
          · clear hH
            have TX9 := hid (show sX.data.toList = g j by rw [EX.out, HJ.out]; simp only [catL, EG.out, ET.out, EB.out]; simp)
            clear M KN R9 CG CT CB RC lg lb lt9 EX HJ EG ET EB k1 k2 k3 k4 k5 k6 k7 k8 BW0
            go_wp2_with fail
            refine ⟨⟨j + 1, by omega, rfl, hid ?_⟩, by show rn - ((j : Int) + 1).toNat < rn - (j : Int).toNat; omega⟩
            rw [map_next, ← List.append_assoc]
            exact ln_step S9.out hL0.out TX9.out
          exact AllReadyH.nil
          exact AllReadyH.nil
          exact AllReadyH.nil
          exact AllReadyH.nil
          exact AllReadyH.nil
          refine rdy (fun K hK => ?_) ?_
          have e18 := RC.out _ nb KN.out
          go_simp
          clear e18 hH
          refine hK.out _ _ ?_ (fun hH => ?_)
          · exact blk_fif M.out.r
          clear hK K
          (try simp only [Act.put, gy0, gy1, gy2])
          refine wpAnyH_ready (rs := [6]) (by kernel_rfl) (by simp) ?_
          refine rdy (fun K hK => ?_) ?_
          go_simp
          refine (CG.out _).mono ?_
          rintro e wc ⟨sG, rfl, eG, b⟩
          replace M := hid (M.out.keep b)
          try (replace KN := hid (KN.out.keep b))
          have zG : sG.size ≤ 21 := by rw [size_of eG]; exact lg.out
          have k2 : ¬9223372036854775807 < nj.size + 2 + sG.size := by omega
          have k3 : ¬9223372036854775807 < nj.size + 2 + sG.size + 3 := by omega
          have EG := hid eG
          clear b hH eG
          (try go_wp2_with fail)
          refine hK.out _ _ ?_ (fun hH => ?_)
          · exact blk_fif M.out.r
          clear hK K
          (try simp only [Act.put, gy0, gy1, gy2])
          refine tk 7 hH ?_
          (try simp only [Act.put, gy0, gy1, gy2])
          refine tk 8 hH ?_
          (try simp only [Act.put, gy0, gy1, gy2])
          refine wpAnyH_ready (rs := [11]) (by kernel_rfl) (by simp) ?_
          refine rdy (fun K hK => ?_) ?_
          go_simp
          refine (CT.out _ (BW0.out _ M.out.s.bel)).mono ?_
          rintro e wc ⟨sT, rfl, eT, b⟩
          replace M := hid (M.out.keep b)
          try (replace KN := hid (KN.out.keep b))
          have zT : sT.size ≤ 2000000 := by rw [size_of eT]; exact lt9.out
          have k4 : ¬9223372036854775807 < nj.size + 2 + sG.size + 3 + sT.size := by omega
          have k5 : ¬9223372036854775807 < nj.size + 2 + sG.size + 3 + sT.size + 1 := by omega
          have k6 : ¬9223372036854775807 < nj.size + 2 + sG.size + 3 + sT.size + 1 + rl.size := by omega
          have k7 : ¬9223372036854775807 < nj.size + 2 + sG.size + 3 + sT.size + 1 + rl.size + 1 := by omega
          have ET := hid eT
          clear b hH eT
          (try go_wp2_with fail)
          refine hK.out _ _ ?_ (fun hH => ?_)
          · exact blk_fif M.out.r
          clear hK K
          (try simp only [Act.put, gy0, gy1, gy2])
          refine tk 12 hH ?_
          (try simp only [Act.put, gy0, gy1, gy2])
          refine tk 13 hH ?_
          (try simp only [Act.put, gy0, gy1, gy2])
          refine tk 19 hH ?_
          (try simp only [Act.put, gy0, gy1, gy2])
          refine tk 20 hH ?_
          (try simp only [Act.put, gy0, gy1, gy2])
          refine wpAnyH_ready (rs := [23]) (by kernel_rfl) (by simp) ?_
          refine rdy (fun K hK => ?_) ?_
          go_simp
          refine (CB.out _).mono ?_
          rintro e wc ⟨sB, rfl, eB, b⟩
          replace M := hid (M.out.keep b)
          try (replace KN := hid (KN.out.keep b))
          have zB : sB.size ≤ 21 := by rw [size_of eB]; exact lb.out
          have k8 : ¬9223372036854775807 < nj.size + 2 + sG.size + 3 + sT.size + 1 + rl.size + 1 + sB.size := by omega
          have EB := hid eB
          clear b hH eB
          (try go_wp2_with fail)
          refine hK.out _ _ ?_ (fun hH => ?_)
          · exact blk_fif M.out.r
          clear hK K
          (try simp only [Act.put, gy0, gy1, gy2])
          refine tk 24 hH ?_
          (try simp only [Act.put, gy0, gy1, gy2])
          refine wpAnyH_ready (rs := [25]) (by kernel_rfl) (by simp) ?_
          refine rdy (fun K hK => ?_) ?_
          obtain ⟨sX, hsX⟩ : ∃ x, x = nj ++ (⟨#[32, 40]⟩ : ByteArray) ++ sG ++ (⟨#[41, 58, 32]⟩ : ByteArray) ++ sT ++ (⟨#[32]⟩ : ByteArray) ++ rl ++ (⟨#[32]⟩ : ByteArray) ++ sB := ⟨_, rfl⟩
          rw [← hsX]
          have EX := hid hsX
          clear hsX
          go_simp
          obtain ⟨wc, ab9, hW, hp, b, kk⟩ := mk_cells wc [.string sX] 9
          simp only [List.toArray] at hW
          rw [← hW, ← hp]
          clear hW hp hH
          replace M := hid (M.out.keep b)
          have KB := hid kk
          clear kk b
          refine hK.out _ _ ?_ (fun hH => ?_)
          · exact blk_fif M.out.r
          clear hK K
          (try simp only [Act.put, gy0, gy1, gy2])
          refine wpAnyH_ready (rs := [26]) (by kernel_rfl) (by simp) ?_
          refine rdy (fun K hK => ?_) ?_
          rw [if_pos (by rfl)]
          refine wp_append_str (.tmp 71) (.tmp 96) rfl W0.heap.size u3 l rfl M.out.s.own ab9 sX rfl KB.out (by omega) M.out.s.le ?_
          intro v9 w9 ho hg
          have S9 := hid (M.out.s.grow ho hg)
          have R9 := blk_grow M.out.s.own M.out.r (by decide) hg
          clear ho hg hH KB
          refine hK.out _ _ ?_ (fun hH => ?_)
          · exact blk_fif R9
          clear hK K
          (try simp only [Act.put, gy0, gy1, gy2])
          refine tk 27 hH ?_
          (try simp only [Act.put, gy0, gy1, gy2])
          refine wpAnyH_done (by kernel_rfl) ?_ _
          refine NoPanic.normal ?_
          · clear hH
            have TX9 := hid (show sX.data.toList = g j by rw [EX.out, HJ.out]; simp only [catL, EG.out, ET.out, EB.out]; simp)
            clear M KN R9 CG CT CB RC lg lb lt9 EX HJ EG ET EB k1 k2 k3 k4 k5 k6 k7 k8 BW0
            go_wp2_with fail
            refine ⟨⟨j + 1, by omega, rfl, hid ?_⟩, by show rn - ((j : Int) + 1).toNat < rn - (j : Int).toNat; omega⟩
            rw [map_next, ← List.append_assoc]
            exact ln_step S9.out hL0.out TX9.out
          exact AllReadyH.nil
          exact AllReadyH.nil
          exact AllReadyH.nil
          exact AllReadyH.nil
          exact AllReadyH.nil
          exact AllReadyH.nil
          exact AllReadyH.nil
        · obtain rfl : rn = j := by omega
          have S4 := hid (show LnP w W0.heap.size ((List.range vn).map f ++ (List.range rn).map g) _ wr from LnP.from BB.out ⟨l, hS0.out, hL0.out⟩)
          clear hS0 hL0 BJ
          go_wp2_with fail
          go_ret
          exact ⟨_, _, rfl, S4.out⟩
end Go.Proofs.YtdbccidlnhjfhaaGreatDoor
