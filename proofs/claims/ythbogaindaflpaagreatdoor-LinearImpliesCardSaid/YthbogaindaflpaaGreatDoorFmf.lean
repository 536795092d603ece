/- The text of a program. -/
import Derived.Test.YthbogaindaflpaaGreatDoorFme
import Derived.Deep.DeepCutAuto
import Derived.BigQuiet
namespace Go.Proofs.YthbogaindaflpaaGreatDoor
open Go.RowKit

/-- A list of the call's own with these texts. -/
structure LnP (w : World) (B : Nat) (ls : List (List UInt8)) (u : Value) (W : World) : Prop where
  ex : ∃ l, SlP w B u l W ∧ txs l = ls
/-- The call returns a list of its own with these texts. -/
def RetLn (w : World) (ls : List (List UInt8)) (e : Ending) (w' : World) : Prop := ∃ u B, e = .returned u ∧ LnP w B ls u w'
theorem LnP.start (w : World) : LnP w w.heap.size [] (.slice (some ⟨w.heap.size, 0, none⟩) 0 0) (w.alloc (.cells #[] 9)) := ⟨[], SlP.start (bx_refl w), rfl⟩
theorem ln_nil {w W : World} (b : Below w.heap.size w W) : LnP w W.heap.size [] (.slice none 0 0) W := ⟨[], ⟨b, ⟨rfl, .inl ⟨rfl, rfl⟩⟩, b.size, Nat.le_refl _⟩, rfl⟩
theorem LnP.from {w W1 W : World} {B : Nat} {ls : List (List UInt8)} {u : Value} (b : Below w.heap.size w W1) (h : LnP W1 B ls u W) : LnP w B ls u W := by
  obtain ⟨l, h1, h2⟩ := h.ex
  exact ⟨l, ⟨bx_call b h1.bel, h1.own, Nat.le_trans b.size h1.ge, h1.le⟩, h2⟩
theorem map_next {α : Type} (f : Nat → α) (j : Nat) : (List.range (j + 1)).map f = (List.range j).map f ++ [f j] := by
  rw [List.range_succ, List.map_append]
  rfl
theorem ln_step {w W : World} {B : Nat} {u : Value} {l : List ByteArray} {s : ByteArray} {ls : List (List UInt8)} {x : List UInt8} (S : SlP w B u (l ++ [s]) W) (hl : txs l = ls) (hs : s.data.toList = x) : LnP w B (ls ++ [x]) u W := ⟨l ++ [s], S, by rw [txs_append, hl, ← hs]; rfl⟩
def fmtL (ok : Bool) (vn rn : Nat) (f g : Nat → List UInt8) : List (List UInt8) := if ok = true then (List.range vn).map f ++ (List.range rn).map g else []
def vTx (lo up : Nat → Int) (op it : Nat → Bool) (co : Nat → Int) (i : Nat) : List UInt8 := varTx (i : Int) (lo i) (up i) (op i) (it i) (co i)
def rTx (nm : Nat → ByteArray) (gr ki bo : Nat → Int) (tn : Nat → Nat) (v cf : Nat → Nat → Int) (i : Nat) : List UInt8 := rowTx (nm i) (gr i) (ki i) (bo i) (tn i) (v i) (cf i)

theorem vld_row {vn rn : Nat} {lo up : Nat → Int} {op : Nat → Bool} {co : Nat → Int} {nm : Nat → ByteArray} {gr ki bo : Nat → Int} {tn : Nat → Nat} {v cf : Nat → Nat → Int} (h : vldB vn rn lo up op co nm gr ki bo tn v cf = true) (i : Nat) (hi : i < rn) : (nm i).size ≤ 1000 ∧ (0 ≤ ki i ∧ ki i ≤ 2) ∧ ∀ t, t < tn i → -4611686018427387904 ≤ cf i t ∧ cf i t ≤ 4611686018427387904 := by
  unfold vldB at h
  simp only [Bool.and_eq_true, decide_eq_true_eq] at h
  have hr := h.2 i hi
  unfold rowB nmB tmsB at hr
  simp only [Bool.and_eq_true, decide_eq_true_eq] at hr
  obtain ⟨⟨⟨⟨h1, h2⟩, h3⟩, h4⟩, h5⟩ := hr
  refine ⟨Nat.le_trans h4.2 (by decide), h1, fun t ht => ?_⟩
  have h6 := h5 t ht
  unfold tmOk inR at h6
  omega

set_option maxRecDepth 100000 in
set_option maxHeartbeats 8000000 in
theorem f_format (V0 : Option Addr) (vn vc : Nat) (R0 : Option Addr) (rn rc : Nat) (lo up : Nat → Int) (op it : Nat → Bool) (co : Nat → Int) (nm : Nat → ByteArray) (gr ki bo : Nat → Int) (TA : Nat → Option Addr) (tn tc : Nat → Nat) (v cf : Nat → Nat → Int) (w : World) (hV : Vs w V0 vn vc lo up op it co) (hR : Rs w R0 rn rc nm gr ki bo TA tn tc v cf) (hnm : ∀ j, j < rn → (nm j).size ≤ 9223372036854775807) (hvn : vn ≤ 100) (hrn : rn ≤ 100) (htn : ∀ i, i < rn → tn i ≤ 100) (ht : Tab w) :
    Calls Tryz.prog 15 #[.agg #[.slice V0 vn vc, .slice R0 rn rc]] w (RetLn w (fmtL (vldB vn rn lo up op co nm gr ki bo tn v cf) vn rn (vTx lo up op it co) (rTx nm gr ki bo tn v cf))) := by
  obtain ⟨ok, hok⟩ : ∃ b, b = vldB vn rn lo up op co nm gr ki bo tn v cf := ⟨_, rfl⟩
  have CO := hid (fun (W : World) (b : Below w.heap.size w W) => vvalidp V0 vn vc R0 rn rc lo up op it co nm gr ki bo TA tn tc v cf W (hV.keep b) (hR.keep b) hnm)
  rw [← hok] at CO ⊢
  have CV := hid (fun (i : Nat) (hi : i < vn) (W : World) (b : Below w.heap.size w W) => show Calls Tryz.prog 59 #[.int .i64 (i : Int), .agg #[.int .i64 (lo i), .int .i64 (up i), .bool (op i), .bool (it i), .int .i64 (co i)]] W (RetTx W (vTx lo up op it co i)) from f_var i (lo i) (up i) (op i) (it i) (co i) W (by omega) (hV.2.2.1 i hi).1 (hV.2.2.1 i hi).2.1 (hV.2.2.1 i hi).2.2 (ht.keep b))
  have CR := hid (fun (h : ok = true) (i : Nat) (hi : i < rn) (W : World) (b : Below w.heap.size w W) => show Calls Tryz.prog 60 #[.agg #[.string (nm i), .int .i64 (gr i), .int .i64 (ki i), .slice (TA i) (tn i) (tc i), .int .i64 (bo i)]] W (RetTx W (rTx nm gr ki bo tn v cf i)) from by
    obtain ⟨h1, h2, h3⟩ := vld_row (hok ▸ h) i hi
    exact f_row (nm i) (gr i) (ki i) (bo i) (TA i) (tn i) (tc i) (v i) (cf i) W h1 (hR.2.2.1 i hi).2.2.1 h2 (hR.2.2.1 i hi).2.1 ((hR.2.2.1 i hi).2.2.2.keep b) (Nat.le_trans (htn i hi) (by decide)) h3 (ht.keep b))
  obtain ⟨f, hf⟩ : ∃ f, f = vTx lo up op it co := ⟨_, rfl⟩
  obtain ⟨g, hg⟩ : ∃ g, g = rTx nm gr ki bo tn v cf := ⟨_, rfl⟩
  rw [← hf] at CV ⊢
  rw [← hg] at CR ⊢
  have v1 := hV.1
  have v2 := hV.2.1
  have r1 := hR.1
  have r2 := hR.2.1
  have HV := hid hV
  have HR := hid hR
  obtain ⟨W0, hW⟩ : ∃ W, W = w.alloc (.cells #[.slice V0 vn vc, .slice R0 rn rc] 25) := ⟨_, rfl⟩
  have B0 := bx_alloc (bx_refl w) (.cells #[.slice V0 vn vc, .slice R0 rn rc] 25)
  have KP := Blk.new w [.slice V0 vn vc, .slice R0 rn rc] 25
  change Blk (w.alloc (.cells #[.slice V0 vn vc, .slice R0 rn rc] 25)) _ _ _ at KP
  rw [← hW] at B0 KP
  obtain ⟨z0, z1⟩ := blk_two KP
  have BB := hid B0
  have HK := hid KP
  clear hV hR hnm htn ht hok hf hg B0 KP
  go_enter Tryz.func15, Tryz.ntmps15
  go_upto_region 1 with fail
  rw [← hW]
  clear hW
  go_wp2_with fail
  refine (CO.out _ BB.out).mono ?_
  rintro e W1 ⟨rfl, b⟩
  have B1 := hid (bx_call BB.out b)
  have K1 := hid (HK.out.keep b)
  clear b BB HK CO z0 z1
  obtain ⟨z0, z1⟩ := blk_two K1.out
  cases ok
  case false =>
    go_wp2_with fail
    go_ret
    exact ⟨_, _, rfl, by unfold fmtL; exact ln_nil B1.out⟩
  replace CR := hid (CR.out rfl)
  have S0 := hid (LnP.start W1)
  have z00 := cell_al (o := .cells #[] 9) z0
  go_wp2_with fail
  go_loopw [3, 15] (fun u i wr => ∃ j : Nat, j ≤ vn ∧ i = .int .i64 j ∧ Hid (LnP W1 W1.heap.size ((List.range j).map f) u wr)) (fun _ i _ => vn - (intOf i).toNat)
  case atStart => exact ⟨0, Nat.zero_le _, rfl, S0⟩
  case round =>
    clear S0 z0 z1 z00
    obtain ⟨j, hj, rfl, hz⟩ := hrel
    obtain ⟨l, S0, hl0⟩ := hz.out.ex
    have hS0 := hid S0
    have hL0 := hid hl0
    have hll : l.length = j := by
      have := congrArg List.length hl0
      simpa [txs] using this
    clear hz S0 hl0
    rcases Nat.lt_or_ge j vn with hlt | hge
    · obtain ⟨b, o, rfl, hb, hcell⟩ := HV.out.2.2.2 (by omega)
      obtain ⟨x0, x1, x2, x3, x4⟩ := hcell j hlt
      have BJ := bx_call B1.out hS0.out.bel
      have c0 := cell_bx x0 BJ
      have c1 := cell_bx x1 BJ
      have c2 := cell_bx x2 BJ
      have c3 := cell_bx x3 BJ
      have c4 := cell_bx x4 BJ
      clear hcell x0 x1 x2 x3 x4
      have BH := hid BJ
      clear BJ
      have CC := hid (CV.out j hlt)
      clear HV HR CV CR
      go_wp2_with fail
      refine (CC.out _ (bx_alloc BH.out _)).mono ?_
      rintro e' w' ⟨s, rfl, hs, hw⟩
      have S1 := hid (hS0.out.keep (bx_call (bx_alloc (bx_refl wr) _) hw))
      have HS := hid hs
      clear hw hs CC
      go_wp2_with (at_builtin
                   refine wp_app S1 [s] rfl (.tmp 20) (.tmp 24) rfl rfl rfl (by show l.length + 1 ≤ 1000000000; omega) ?_
                   intro v1 w1 S2 K2
                   clear K2)
      refine ⟨⟨j + 1, by omega, rfl, hid ?_⟩, by show vn - ((j : Int) + 1).toNat < vn - (j : Int).toNat; omega⟩
      rw [map_next]
      exact ln_step S2.out hL0.out HS.out
    · obtain rfl : vn = j := by omega
      have z1 := (blk_two (K1.out.keep hS0.out.bel)).2
      have z0 := (blk_two (K1.out.keep hS0.out.bel)).1
      have S3 := hid (show LnP W1 W1.heap.size ((List.range vn).map f ++ (List.range 0).map g) u3 wr from ⟨l, hS0.out, by rw [hL0.out]; simp⟩)
      clear hS0 hL0 CV
      go_wp2_with fail
      go_loopw [3, 30] (fun u i wr => ∃ j : Nat, j ≤ rn ∧ i = .int .i64 j ∧ Hid (LnP W1 W1.heap.size ((List.range vn).map f ++ (List.range j).map g) u wr)) (fun _ i _ => rn - (intOf i).toNat)
      case atStart => exact ⟨0, Nat.zero_le _, rfl, S3⟩
      case round =>
        clear S3 z0 z1
        obtain ⟨j, hj, rfl, hz⟩ := hrel
        obtain ⟨l, S0, hl0⟩ := hz.out.ex
        have hS0 := hid S0
        have hL0 := hid hl0
        have hll : l.length = vn + j := by
          have := congrArg List.length hl0
          simpa [txs] using this
        clear hz S0 hl0
        rcases Nat.lt_or_ge j rn with hlt | hge
        · obtain ⟨b, o, rfl, hb, hcell⟩ := HR.out.2.2.2 (by omega)
          obtain ⟨x0, x1, x2, x3, x4⟩ := hcell j hlt
          have BJ := bx_call B1.out hS0.out.bel
          have c0 := cell_bx x0 BJ
          have c1 := cell_bx x1 BJ
          have c2 := cell_bx x2 BJ
          have c3 := cell_bx x3 BJ
          have c4 := cell_bx x4 BJ
          clear hcell x0 x1 x2 x3 x4
          have BH := hid BJ
          clear BJ
          have CC := hid (CR.out j hlt)
          clear HV HR CR
          go_wp2_with fail
          refine (CC.out _ (bx_alloc BH.out _)).mono ?_
          rintro e' w' ⟨s, rfl, hs, hw⟩
          have S1 := hid (hS0.out.keep (bx_call (bx_alloc (bx_refl wr) _) hw))
          have HS := hid hs
          clear hw hs CC
          go_wp2_with (at_builtin
                       refine wp_app S1 [s] rfl (.tmp 34) (.tmp 37) rfl rfl rfl (by show l.length + 1 ≤ 1000000000; omega) ?_
                       intro v1 w1 S2 K2
                       clear K2)
          refine ⟨⟨j + 1, by omega, rfl, hid ?_⟩, by show rn - ((j : Int) + 1).toNat < rn - (j : Int).toNat; omega⟩
          rw [map_next, ← List.append_assoc]
          exact ln_step S2.out hL0.out HS.out
        · obtain rfl : rn = j := by omega
          have S4 := hid (show LnP w W1.heap.size ((List.range vn).map f ++ (List.range rn).map g) _ wr from LnP.from B1.out ⟨l, hS0.out, hL0.out⟩)
          clear hS0 hL0
          go_wp2_with fail
          go_ret
          exact ⟨_, _, rfl, S4.out⟩

end Go.Proofs.YthbogaindaflpaaGreatDoor
