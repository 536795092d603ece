/- Groups. -/
import Derived.Test.YtdbccidlnhjfhaaGreatDoorSrt
import Derived.Deep.DeepCutAuto
import Derived.BigQuiet
namespace Go.Proofs.YtdbccidlnhjfhaaGreatDoor
open Go.RowKit
set_option maxRecDepth 100000
theorem int_keys {D : DataW Unit} {b n : Nat} {R : Value → Option (DataW Unit × List MemPlace)} {w : World} (h : w.ownsMap Tryz.prog 3 R b n D) : (intKeys D).Nodup ∧ ∀ x, x ∈ intKeys D ↔ Maps.has D (.int .i64 x) = true := by
  obtain ⟨es, hD, hpw, _⟩ := h.entries keyed_int
  obtain ⟨es', hD', hko⟩ := h.keysOf
  obtain rfl : es = es' := by rw [hD] at hD'; simpa using hD'
  subst hD
  have hk : ∀ p ∈ es, ∃ x, p.1 = .int .i64 x := fun p hp => by
    obtain ⟨v, hv⟩ := hko p hp
    obtain ⟨x, _, hx, _⟩ := Maps.keyOf_i64 (by kernel_rfl) hv
    exact ⟨x, hx⟩
  refine ⟨?_, fun x => ?_⟩
  · show (es.map fun p => Go.intOf p.1).Nodup
    refine List.pairwise_map.2 (hpw.imp_of_mem fun {p q} hp' hq' hne e => hne ?_)
    obtain ⟨a, ha⟩ := hk p hp'
    obtain ⟨b, hb⟩ := hk q hq'
    rw [ha, hb] at e ⊢
    exact congrArg _ e
  · rw [Maps.has_eq, List.any_eq_true]
    show x ∈ (es.map fun p => Go.intOf p.1) ↔ _
    rw [List.mem_map]
    constructor
    · rintro ⟨p, hp', rfl⟩
      obtain ⟨a, ha⟩ := hk p hp'
      exact ⟨p, hp', by rw [ha]; simp [Lit.sameKey, Go.intOf]⟩
    · rintro ⟨p, hp', hs⟩
      obtain ⟨a, ha⟩ := hk p hp'
      rw [ha] at hs
      exact ⟨p, hp', by rw [ha]; simpa [Lit.sameKey, Go.intOf] using hs⟩
def IsGrp (n : Nat) (gr : Nat → Int) (l : List Int) : Prop := l.Pairwise (· < ·) ∧ ∀ x, x ∈ l ↔ dropB n gr x = true
theorem IsGrp.one {n : Nat} {gr : Nat → Int} {l m : List Int} (h : IsGrp n gr l) (k : IsGrp n gr m) : l = m := by
  have nd : ∀ a : List Int, a.Pairwise (· < ·) → a.Nodup := fun a ha => ha.imp (fun h e => by omega)
  have p : l.Perm m := (List.perm_ext_iff_of_nodup (nd l h.1) (nd m k.1)).2 fun x => (h.2 x).trans (k.2 x).symm
  exact List.Perm.eq_of_pairwise (le := (· < ·)) (fun a b _ _ h1 h2 => by omega) h.1 k.1 p
theorem grp_sort {D : DataW Unit} {b n m : Nat} {R : Value → Option (DataW Unit × List MemPlace)} {w : World} {gr : Nat → Int} {ss : List Int} (h : w.ownsMap Tryz.prog 3 R b n D) (hf : ∀ x, Maps.has D (.int .i64 x) = dropB m gr x) (hp : ss.Perm (intKeys D)) : IsGrp m gr (ss.mergeSort (fun x y => decide (x ≤ y))) := by
  obtain ⟨h1, h2⟩ := int_keys h
  have q := List.mergeSort_perm ss (fun x y => decide (x ≤ y))
  have nd : (ss.mergeSort (fun x y => decide (x ≤ y))).Nodup := (q.trans hp).nodup_iff.2 h1
  have pw := List.pairwise_mergeSort (le := fun (x y : Int) => decide (x ≤ y)) (fun a b c h1 h2 => by simp only [decide_eq_true_eq] at *; omega) (fun a b => by simp only [Bool.or_eq_true, decide_eq_true_eq]; omega) ss
  refine ⟨(pw.and nd).imp (fun hh => ?_), fun x => ?_⟩
  · have := of_decide_eq_true hh.1
    have := hh.2
    omega
  · rw [(q.trans hp).mem_iff, h2, hf]
theorem own_il {w : World} {base : Nat} {x : Value} {l : List Int} (h : w.ownsRow base 3 1 x l.length (l.map (Value.int .i64))) : ∃ A c, x = .slice A l.length c ∧ Il w A l.length c (fun j => l.getD j 0) := by
  have hh := h
  rcases h.2 with ⟨rfl, h0⟩ | ⟨g, cap, cur, rfl, hbb, hg, hnc, hcm, hcs, ht⟩
  · exact ⟨none, 0, by rw [h0], by omega, by omega, fun hn => absurd hn (by omega)⟩
  · refine ⟨_, cap, rfl, hnc, by unfold maxLen at hcm; exact hcm, fun _ => ⟨g, 0, rfl, (Array.getElem?_eq_some_iff.1 hg).1, fun j hj => ?_⟩⟩
    rw [Nat.zero_add, hh.cellAt _ (by omega), List.getElem?_map, List.getElem?_eq_getElem hj]
    show _ = some (Value.int .i64 (l.getD j 0))
    rw [List.getD_eq_getElem?_getD, List.getElem?_eq_getElem hj]
    rfl
def RetGr (w : World) (n : Nat) (gr : Nat → Int) (e : Ending) (w' : World) : Prop := ∃ l A c, e = .returned (.slice A l.length c) ∧ IsGrp n gr l ∧ Il w' A l.length c (fun j => l.getD j 0) ∧ Below w.heap.size w w'
structure GsP (W0 : World) (n : Nat) (f : Int → Bool) (W : World) : Prop where
  bel : Below W0.heap.size W0 W
  ex : ∃ D : DataW Unit, W.ownsMap Tryz.prog 3 (plainElem Tryz.prog 4) W0.heap.size n D ∧ ∀ x, Maps.has D (.int .i64 x) = f x
theorem GsP.made (W0 : World) : GsP W0 0 (fun _ => false) (W0.alloc (.map #[] 0)) := ⟨bx_alloc (bx_refl W0) _, .map [], World.ownsMap_made _ _ _ _, fun _ => rfl⟩
theorem GsP.keep {W0 W W' : World} {n : Nat} {f : Int → Bool} (h : GsP W0 n f W) (b : Below W.heap.size W W') : GsP W0 n f W' := by
  obtain ⟨b0, D, h1, h2⟩ := h
  exact ⟨bx_call b0 b, D, own_map_keep h1 b, h2⟩
theorem drop_same {gr : Nat → Int} {j : Nat} (h : gr j = 0) : dropB (j + 1) gr = dropB j gr := by
  funext x
  rw [drop_next]
  by_cases e : x = gr j
  · rw [if_pos e, e, h]
    unfold dropB
    simp
  · rw [if_neg e]
set_option maxHeartbeats 8000000 in
theorem l_groups (V0 : Option Addr) (vn vc : Nat) (R0 : Option Addr) (rn rc : Nat) (nm : Nat → ByteArray) (gr ki bo : Nat → Int) (TA : Nat → Option Addr) (tn tc : Nat → Nat) (v cf : Nat → Nat → Int) (w : World) (hR : Rs w R0 rn rc nm gr ki bo TA tn tc v cf) (hr : rn ≤ 1000) :
    Calls Tryz.prog 45 #[.agg #[.slice V0 vn vc, .slice R0 rn rc]] w (RetGr w rn gr) := by
  have hmm := @run_makeMap Tryz.prog
  have h3 := hR.1
  have h4 := hR.2.1
  have HR := hid hR
  obtain ⟨W0, hW⟩ : ∃ W, W = w.alloc (.cells #[.slice V0 vn vc, .slice R0 rn rc] 25) := ⟨_, rfl⟩
  have B0 := bx_alloc (bx_refl w) (.cells #[.slice V0 vn vc, .slice R0 rn rc] 25)
  have K0 := Blk.new w [.slice V0 vn vc, .slice R0 rn rc] 25
  simp only [List.toArray] at K0
  rw [← hW] at B0 K0
  have KK := hid (show Below w.heap.size w W0 ∧ Blk W0 w.heap.size [.slice V0 vn vc, .slice R0 rn rc] 25 from ⟨B0, K0⟩)
  have M0 := hid (show GsP W0 0 (dropB 0 gr) (W0.alloc (.map #[] 0)) from by rw [← drop_zero]; exact GsP.made W0)
  obtain ⟨z0, z1⟩ := blk_two (K0.alloc (.map #[] 0))
  clear hR B0 K0
  go_enter Tryz.func45, Tryz.ntmps45
  go_upto_region 1 with fail
  rw [← hW]
  clear hW
  go_wp2_with fail
  clear z0 z1
  go_loopw [10] (fun i wr => ∃ j : Nat, j ≤ rn ∧ i = .int .i64 j ∧ Hid (GsP W0 j (dropB j gr) wr)) (fun i _ => rn - (intOf i).toNat)
  case atStart => exact ⟨0, Nat.zero_le _, rfl, M0⟩
  case round =>
    clear M0
    obtain ⟨i, hj, rfl, hz⟩ := hrel
    rcases Nat.lt_or_ge i rn with hlt5 | hge
    · obtain ⟨b, o, rfl, hb, hcell⟩ := HR.out.2.2.2 (by omega)
      have gb := (HR.out.2.2.1 i hlt5).2.2.1
      obtain ⟨q0, q1, q2, q3, q4⟩ := hcell i hlt5
      have B' := bx_call KK.out.1 hz.out.bel
      replace q0 := cell_bx q0 B'
      replace q1 := cell_bx q1 B'
      replace q2 := cell_bx q2 B'
      replace q3 := cell_bx q3 B'
      replace q4 := cell_bx q4 B'
      obtain ⟨W6, rb, hW, hp, b6, kk⟩ := mk_cells wr [.string (nm i), .int .i64 (gr i), .int .i64 (ki i), .slice (TA i) (tn i) (tc i), .int .i64 (bo i)] 77
      simp only [List.toArray] at hW
      have M := hid (hz.out.keep b6)
      have KI := hid (key_int gb)
      have KB := hid kk
      have DN := hid (fun (h : gr i = 0) => drop_same h)
      have DX := hid (drop_next gr i)
      obtain ⟨gi, hgi⟩ : ∃ x, x = gr i := ⟨_, rfl⟩
      rw [← hgi] at KI KB q1 DN DX hW
      clear hz hcell gb B' b6 kk HR hgi
      go_upto_region 5 with fail
      rw [← hW, ← hp]
      clear hW hp q0 q1 q2 q3 q4
      obtain ⟨r0, r1, r2, r3, r4⟩ := blk_fif KB.out
      by_cases e : gi = 0
      · have NN := hid (show GsP W0 (i + 1) (dropB (i + 1) gr) W6 from by
          rw [DN.out e]
          obtain ⟨b0, D, h1, h2⟩ := M.out
          exact ⟨b0, D, h1.mono (Nat.le_succ _), h2⟩)
        have t1 : (gi != 0) = false := by simp [e]
        clear M KI KB DN DX
        subst e
        go_wp2_with fail
        go_roundw
        case rel => exact ⟨i + 1, by omega, by go_num, NN⟩
        case measure => simp [intOf]; omega
      · have t1 : (gi != 0) = true := by simp [e]
        obtain ⟨D, ho, hf⟩ := M.out.ex
        have HO := hid ho
        have BL := hid M.out.bel
        have NX := hid (show ∀ x, Maps.has (D.put (.int .i64 gi) (.lit (.bool true))) (.int .i64 x) = dropB (i + 1) gr x from fun x => by
          rw [DX.out x]
          by_cases ex : x = gi
          · subst ex
            rw [if_pos rfl, Maps.has_put_same ho.isMap (by unfold WideAt.IsKeyLit; trivial)]
            simp [e]
          · rw [if_neg ex, Maps.has_put_other (fun h => ex (by simpa using h)), hf])
        clear M ho hf DN DX KB
        go_wp2_with (at_mapUpdate; refine wpList_mapUpdate_own _ rfl _ _ _ 110 rfl 3 4 keyed_int und_map (plainElem Tryz.prog 4) W0.heap.size i D rfl HO.out (by unfold maxLen; omega) _ _ _ rfl rfl KI.out _ [] (plainElem_bool und_bool _) ?_; intro w1 hown1 hgrow1)
        have NN := hid (show GsP W0 (i + 1) (dropB (i + 1) gr) w1 from ⟨bx_grow BL.out hgrow1 (Nat.le_refl _), _, hown1, NX.out⟩)
        clear hown1 hgrow1 HO BL NX KI
        go_roundw
        case rel => exact ⟨i + 1, by omega, by go_num, NN⟩
        case measure => simp [intOf]; omega
    · obtain rfl : i = rn := by omega
      obtain ⟨D, ho, hf⟩ := hz.out.ex
      have hs := ho.size_le
      have CS := hid (c_sorted W0.heap.size i D (plainElem Tryz.prog 4) wr ho (by unfold maxLen; omega) (by omega))
      have BW := hid (bx_call KK.out.1 hz.out.bel)
      have GF := hid (fun (ss : List Int) (hp : ss.Perm (intKeys D)) => grp_sort (gr := gr) ho hf hp)
      clear hz HR KK ho hf hs
      go_wp2_with fail
      refine (c_keys _ _).mono ?_
      rintro e w' ⟨rfl, rfl⟩
      go_wp2_with fail
      refine CS.out.mono ?_
      rintro e W7 ⟨x, ss, rfl, hp, ho, b7⟩
      have G := GF.out ss hp
      have hl : ss.length = (ss.mergeSort (fun x y => decide (x ≤ y))).length := (List.mergeSort_perm ss _).length_eq.symm
      rw [hl] at ho
      obtain ⟨A, c, rfl, hi⟩ := own_il ho
      have FIN := hid (show RetGr w i gr (.returned (.slice A (ss.mergeSort (fun x y => decide (x ≤ y))).length c)) W7 from ⟨_, A, c, rfl, G, hi, bx_call BW.out b7⟩)
      clear hp ho b7 G hl hi CS GF BW
      obtain ⟨k, hk⟩ : ∃ k, k = (ss.mergeSort (fun x y => decide (x ≤ y))).length := ⟨_, rfl⟩
      rw [← hk] at FIN ⊢
      clear hk
      go_wp2_with fail
      go_ret
      exact FIN.out
end Go.Proofs.YtdbccidlnhjfhaaGreatDoor
