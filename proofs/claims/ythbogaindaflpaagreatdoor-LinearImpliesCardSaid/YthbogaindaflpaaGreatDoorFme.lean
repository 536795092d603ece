/- The line of a row. -/
import Derived.Test.YthbogaindaflpaaGreatDoorFmd
import Derived.Deep.DeepCutAuto
import Derived.MapKept
import Derived.RangeFuncRecord
import Derived.BigQuiet
namespace Go.Proofs.YthbogaindaflpaaGreatDoor
open Go.RowKit

def ent (k : Int) (v : Value) (n : Nat) : MapEntry := { key := .int .i64 k, val := v, born := n }
theorem put_newS {W : World} {b : Nat} {es : Array MapEntry} {clock : Nat} (hb : W.heap[b]? = some (.map es clock)) {k : Int} {v : Value} (hn : Instr.findNow (.int .i64) (.int .i64 k) es.toList 0 = some none) :
    (Instr.mapUpdate 123 (.map (some b)) (.int .i64 k) v).run Tryz.prog W = .ok () (W.putObj b (.map (es.push (ent k v clock)) (clock + 1))) := by
  have h1 : Tryz.prog.underlying 123 = some (.map 3 9) := by kernel_rfl
  have h2 : Tryz.prog.underlying 3 = some (.int .i64) := by kernel_rfl
  have hk : MapKept.IsKey (.int .i64) (.int .i64 k) := by first | rfl | trivial | simp [MapKept.IsKey]
  simp [Instr.mapUpdate, run_underlying h1, MapKept.run_getObj_map hb, MapKept.run_checkKey h2 hk, MapKept.run_findKey h2 hn, MapKept.run_setObj_map _ hb, Result.andThen, ent, World.putObj]
theorem put_bel {w W : World} {b : Nat} {o : Obj} (h : Below w.heap.size w W) (hb : w.heap.size ≤ b) : Below w.heap.size w (W.putObj b o) :=
  h.trans ⟨rfl, rfl, rfl, by simp, fun k hk => World.putObj_heap_other (by omega)⟩
theorem put_blk {W : World} {b g : Nat} {o : Obj} {cs : List Value} {t : TypeId} (h : Blk W g cs t) (hb : b ≠ g) : Blk (W.putObj b o) g cs t := (World.putObj_heap_other hb.symm).trans h
theorem look_atS {W : World} {b : Nat} {es : Array MapEntry} {clock : Nat} (hb : W.heap[b]? = some (.map es clock)) {k : Int} {v : Value} {i : Nat} (hn : Instr.findNow (.int .i64) (.int .i64 k) es.toList 0 = some (some (i, v))) :
    (Instr.lookup 123 (.map (some b)) (.int .i64 k) false).run Tryz.prog W = .ok v W := by
  have h1 : Tryz.prog.underlying 123 = some (.map 3 9) := by kernel_rfl
  have h2 : Tryz.prog.underlying 3 = some (.int .i64) := by kernel_rfl
  have hk : MapKept.IsKey (.int .i64) (.int .i64 k) := by first | rfl | trivial | simp [MapKept.IsKey]
  simp [Instr.lookup, run_underlying h1, MapKept.run_getObj_map hb, MapKept.run_checkKey h2 hk, MapKept.run_findKey h2 hn, Result.andThen]
def rel0 : Array MapEntry := #[]
def rel1 : Array MapEntry := #[ent 0 (.string ⟨#[60, 61]⟩) 0]
def rel2 : Array MapEntry := #[ent 0 (.string ⟨#[60, 61]⟩) 0, ent 1 (.string ⟨#[62, 61]⟩) 1]
def rel3 : Array MapEntry := #[ent 0 (.string ⟨#[60, 61]⟩) 0, ent 1 (.string ⟨#[62, 61]⟩) 1, ent 2 (.string ⟨#[61]⟩) 2]
def relB (ki : Int) : ByteArray := if ki = 0 then ⟨#[60, 61]⟩ else if ki = 1 then ⟨#[62, 61]⟩ else ⟨#[61]⟩
theorem look_rel {W : World} {b : Nat} (hb : W.heap[b]? = some (.map rel3 3)) {ki : Int} (h : 0 ≤ ki ∧ ki ≤ 2) : (Instr.lookup 123 (.map (some b)) (.int .i64 ki) false).run Tryz.prog W = .ok (.string (relB ki)) W := by
  have : ki = 0 ∨ ki = 1 ∨ ki = 2 := by omega
  rcases this with rfl | rfl | rfl
  · exact look_atS hb (k := 0) (i := 0) rfl
  · exact look_atS hb (k := 1) (i := 1) rfl
  · exact look_atS hb (k := 2) (i := 2) rfl
/-- A row in a box, and the table of relations. -/
structure Kr (w : World) (b : Nat) (cs : List Value) (W : World) : Prop where
  bel : Below w.heap.size w W
  box : Blk W w.heap.size cs 77
  mp : W.heap[b]? = some (.map rel3 3)
theorem Kr.keep {w W W' : World} {b : Nat} {cs : List Value} (h : Kr w b cs W) (k : Below W.heap.size W W') : Kr w b cs W' := ⟨bx_call h.bel k, h.box.keep k, (k.block b (Array.getElem?_eq_some_iff.1 h.mp).1).trans h.mp⟩
theorem kr_all {w W : World} {b : Nat} {nm : ByteArray} {gr ki bo : Int} {TA : Option Addr} {tn tc : Nat} (h : Kr w b [.string nm, .int .i64 gr, .int .i64 ki, .slice TA tn tc, .int .i64 bo] W) (hk : 0 ≤ ki ∧ ki ≤ 2) : W.cell? ⟨w.heap.size, 0, none⟩ = some (.string nm) ∧ W.cell? ⟨w.heap.size, 1, none⟩ = some (.int .i64 gr) ∧ W.cell? ⟨w.heap.size, 2, none⟩ = some (.int .i64 ki) ∧ W.cell? ⟨w.heap.size, 3, none⟩ = some (.slice TA tn tc) ∧ W.cell? ⟨w.heap.size, 4, none⟩ = some (.int .i64 bo) ∧ (Instr.lookup 123 (.map (some b)) (.int .i64 ki) false).run Tryz.prog W = .ok (.string (relB ki)) W := by
  obtain ⟨y0, y1, y2, y3, y4⟩ := blk_fif h.box
  exact ⟨y0, y1, y2, y3, y4, look_rel h.mp hk⟩
theorem join5 (a b c d e s : List UInt8) : Lib.join [a, b, c, d, e] s = a ++ (s ++ (b ++ (s ++ (c ++ (s ++ (d ++ (s ++ e))))))) := by
  unfold Lib.join
  simp [List.intercalate]
theorem sumTx_len {tn : Nat} {v cf : Nat → Int} (hv : ∀ t, t < tn → -9223372036854775808 ≤ v t ∧ v t ≤ 9223372036854775807) (hc : ∀ t, t < tn → -4611686018427387904 ≤ cf t ∧ cf t ≤ 4611686018427387904) (htn : tn ≤ 10000) : (sumTx tn v cf).length ≤ 2000000 := by
  unfold sumTx
  split
  · simp
  · have h1 : ∀ n, n ≤ tn → ∀ x ∈ tparts v cf n, x.length ≤ 30 := by
      intro n
      induction n with
      | zero =>
        intro _ x hx
        simp [tparts] at hx
      | succ n ih =>
        intro hn x hx
        simp only [tparts, List.mem_append] at hx
        rcases hx with h | h
        · exact ih (by omega) x h
        · exact tpart_mem (hv n (by omega)) (hc n (by omega)) x h
    have h2 := join_le (tparts v cf tn) [] 30 (h1 tn (Nat.le_refl _))
    have h3 := tparts_len v cf tn
    simp only [List.length_nil] at h2
    omega
def rowTx (nm : ByteArray) (gr ki bo : Int) (tn : Nat) (v cf : Nat → Int) : List UInt8 := Lib.join [nm.data.toList, 40 :: (Lib.itoa gr ++ [41, 58]), sumTx tn v cf, (relB ki).data.toList, Lib.itoa bo] [32]
theorem relB_len (ki : Int) : (relB ki).size ≤ 2 := by
  unfold relB
  split
  · decide
  · split <;> decide

set_option maxRecDepth 100000 in
set_option maxHeartbeats 8000000 in
theorem f_row (nm : ByteArray) (gr ki bo : Int) (TA : Option Addr) (tn tc : Nat) (v cf : Nat → Int) (w : World) (hn : nm.size ≤ 1000) (h0 : -9223372036854775808 ≤ gr ∧ gr ≤ 9223372036854775807) (hk : 0 ≤ ki ∧ ki ≤ 2) (h1 : -9223372036854775808 ≤ bo ∧ bo ≤ 9223372036854775807) (hT : Ts w TA tn tc v cf) (htn : tn ≤ 10000) (hcf : ∀ t, t < tn → -4611686018427387904 ≤ cf t ∧ cf t ≤ 4611686018427387904) (ht : Tab w) :
    Calls Tryz.prog 60 #[.agg #[.string nm, .int .i64 gr, .int .i64 ki, .slice TA tn tc, .int .i64 bo]] w (RetTx w (rowTx nm gr ki bo tn v cf)) := by
  have CG := hid (fun (W : World) (b : Below w.heap.size w W) => Tryz.strconv_Itoa gr h0.1 h0.2 W (ht.keep b))
  have CB := hid (fun (W : World) (b : Below w.heap.size w W) => f_decimal bo W h1.1 h1.2 (ht.keep b))
  have CT := hid (fun (W : World) (b : Below w.heap.size w W) => f_terms TA tn tc v cf W (hT.keep b) htn hcf (ht.keep b))
  have zG := hid (Lib.itoa_length_le gr h0.1 h0.2)
  have zB := hid (Lib.itoa_length_le bo h1.1 h1.2)
  have zT := hid (sumTx_len (fun t ht => (hT.2.2.1 t ht).1) hcf htn)
  have zN := hid hn
  obtain ⟨sG, hsG⟩ : ∃ s : ByteArray, s = ⟨(Lib.itoa gr).toArray⟩ := ⟨_, rfl⟩
  have sz1 : sG.size ≤ 21 := by
    rw [hsG]
    show (Lib.itoa gr).toArray.size ≤ 21
    simpa using zG.out
  have EG := hid (show sG.data.toList = Lib.itoa gr by rw [hsG])
  rw [← hsG] at CG
  obtain ⟨W0, hW⟩ : ∃ W, W = w.alloc (.cells #[.string nm, .int .i64 gr, .int .i64 ki, .slice TA tn tc, .int .i64 bo] 77) := ⟨_, rfl⟩
  have B0 := bx_alloc (bx_refl w) (.cells #[.string nm, .int .i64 gr, .int .i64 ki, .slice TA tn tc, .int .i64 bo] 77)
  have K0 := Blk.new w [.string nm, .int .i64 gr, .int .i64 ki, .slice TA tn tc, .int .i64 bo] 77
  change Blk (w.alloc (.cells #[.string nm, .int .i64 gr, .int .i64 ki, .slice TA tn tc, .int .i64 bo] 77)) _ _ _ at K0
  rw [← hW] at B0 K0
  have hlt := K0.lt
  obtain ⟨M0, g0⟩ : ∃ W, W = W0.alloc (.map #[] 0) := ⟨_, rfl⟩
  have b0 : M0.heap[W0.heap.size]? = some (.map rel0 0) := by rw [g0]; exact heap_alloc_new W0 _
  have l0 : W0.heap.size < M0.heap.size := by rw [g0]; simp
  have p0 := put_newS b0 (k := 0) (v := .string ⟨#[60, 61]⟩) rfl
  obtain ⟨M1, g1⟩ : ∃ W, W = M0.putObj W0.heap.size (.map (rel0.push (ent 0 (.string ⟨#[60, 61]⟩) 0)) (0 + 1)) := ⟨_, rfl⟩
  have b1 : M1.heap[W0.heap.size]? = some (.map rel1 1) := by rw [g1]; exact World.putObj_heap_same l0
  have l1 : W0.heap.size < M1.heap.size := by rw [g1]; simpa using l0
  have p1 := put_newS b1 (k := 1) (v := .string ⟨#[62, 61]⟩) rfl
  obtain ⟨M2, g2⟩ : ∃ W, W = M1.putObj W0.heap.size (.map (rel1.push (ent 1 (.string ⟨#[62, 61]⟩) 1)) (1 + 1)) := ⟨_, rfl⟩
  have b2 : M2.heap[W0.heap.size]? = some (.map rel2 2) := by rw [g2]; exact World.putObj_heap_same l1
  have l2 : W0.heap.size < M2.heap.size := by rw [g2]; simpa using l1
  have p2 := put_newS b2 (k := 2) (v := .string ⟨#[61]⟩) rfl
  obtain ⟨M3, g3⟩ : ∃ W, W = M2.putObj W0.heap.size (.map (rel2.push (ent 2 (.string ⟨#[61]⟩) 2)) (2 + 1)) := ⟨_, rfl⟩
  have b3 : M3.heap[W0.heap.size]? = some (.map rel3 3) := by rw [g3]; exact World.putObj_heap_same l2
  rw [← g1] at p0
  rw [← g2] at p1
  rw [← g3] at p2
  have P0 := hid (show Kr w W0.heap.size [.string nm, .int .i64 gr, .int .i64 ki, .slice TA tn tc, .int .i64 bo] M3 from by
    refine ⟨?_, ?_, b3⟩
    · rw [g3, g2, g1, g0]
      have h := B0.size
      exact put_bel (put_bel (put_bel (bx_alloc B0 _) h) h) h
    · rw [g3, g2, g1, g0]
      have h : W0.heap.size ≠ w.heap.size := by omega
      exact put_blk (put_blk (put_blk (K0.alloc _) h) h) h)
  rw [g0] at p0
  clear B0 K0 h0 h1 ht b0 b1 b2 b3 l0 l1 l2 g0 g1 g2 g3 hT hcf hn hsG hlt htn
  have hmm := @run_makeMap Tryz.prog
  go_enter Tryz.func60, Tryz.ntmps60
  go_upto_region 1 with fail
  rw [← hW]
  clear hW
  go_upto_region 2 with fail
  obtain ⟨y0, y1, y2, y3, y4⟩ := blk_fif P0.out.box
  go_wp2_with fail
  refine (CG.out _ P0.out.bel).mono ?_
  rintro e W1 ⟨rfl, k, os, rfl⟩
  have P1 := hid (P0.out.keep (Lib.below_grow M3.heap.size M3 (Nat.le_refl _) k os))
  obtain ⟨W1, hW⟩ : ∃ W, W = Sort.grow (M3.drewN k) os := ⟨_, rfl⟩
  rw [← hW] at P1 ⊢
  clear hW P0 CG y0 y1 y2 y3 y4
  have k1 : ¬9223372036854775807 < 1 + sG.size := by omega
  have k2 : ¬9223372036854775807 < 1 + sG.size + 2 := by omega
  go_upto_region 3 with fail
  (try simp only [List.append_eq, List.cons_append, List.nil_append])
  refine wp_region_noPanic ?_
  refine wp_region_held_drew (S := (fun W => W.cell? ⟨w.heap.size, 0, none⟩ = some (.string nm) ∧ W.cell? ⟨w.heap.size, 1, none⟩ = some (.int .i64 gr) ∧ W.cell? ⟨w.heap.size, 2, none⟩ = some (.int .i64 ki) ∧ W.cell? ⟨w.heap.size, 3, none⟩ = some (.slice TA tn tc) ∧ W.cell? ⟨w.heap.size, 4, none⟩ = some (.int .i64 bo) ∧ (Instr.lookup 123 (.map (some W0.heap.size)) (.int .i64 ki) false).run Tryz.prog W = .ok (.string (relB ki)) W)) (by kernel_rfl) ?_ (fun hH => ?_)
  exact kr_all (P1.out.keep (bx_drew (bx_refl W1))) hk
  have bd := bx_drew (bx_refl W1)
  obtain ⟨E0, hW0⟩ : ∃ W, W = W1.drew := ⟨_, rfl⟩
  rw [← hW0] at bd hH ⊢
  clear hW0
  have P2 := hid (P1.out.keep bd)
  clear bd P1
  refine tk 0 hH ?_
  (try simp only [Act.put, gy0, gy1, gy2])
  refine tk 1 hH ?_
  (try simp only [Act.put, gy0, gy1, gy2])
  refine tk 2 hH ?_
  (try simp only [Act.put, gy0, gy1, gy2])
  refine tk 3 hH ?_
  (try simp only [Act.put, gy0, gy1, gy2])
  refine tk 4 hH ?_
  (try simp only [Act.put, gy0, gy1, gy2])
  refine tk 6 hH ?_
  (try simp only [Act.put, gy0, gy1, gy2])
  refine tk 7 hH ?_
  (try simp only [Act.put, gy0, gy1, gy2])
  refine tk 8 hH ?_
  (try simp only [Act.put, gy0, gy1, gy2])
  refine tk 9 hH ?_
  (try simp only [Act.put, gy0, gy1, gy2])
  refine tk 10 hH ?_
  (try simp only [Act.put, gy0, gy1, gy2])
  refine tk 11 hH ?_
  (try simp only [Act.put, gy0, gy1, gy2])
  refine wpAnyH_ready (rs := [5]) (by kernel_rfl) (by simp) ?_
  refine rdy (fun K hK => ?_) AllReadyH.nil
  go_simp
  refine (CT.out _ P2.out.bel).mono ?_
  rintro e v1 ⟨sT, rfl, eT, b⟩
  have P3 := hid (P2.out.keep b)
  have ET := hid eT
  clear b hH P2 CT eT
  (try go_wp2_with fail)
  refine hK.out _ _ ?_ (fun hH => ?_)
  exact kr_all P3.out hk
  clear hK K
  (try simp only [Act.put, gy0, gy1, gy2])
  refine wpAnyH_ready (rs := [12]) (by kernel_rfl) (by simp) ?_
  refine rdy (fun K hK => ?_) AllReadyH.nil
  go_simp
  refine (CB.out _ P3.out.bel).mono ?_
  rintro e v2 ⟨sB, rfl, eB, b⟩
  have P4 := hid (P3.out.keep b)
  have EB := hid eB
  clear b hH P3 CB eB
  (try go_wp2_with fail)
  refine hK.out _ _ ?_ (fun hH => ?_)
  exact kr_all P4.out hk
  clear hK K
  (try simp only [Act.put, gy0, gy1, gy2])
  refine wpAnyH_ready (rs := [13]) (by kernel_rfl) (by simp) ?_
  refine rdy (fun K hK => ?_) AllReadyH.nil
  go_simp
  have ba := bx_alloc (bx_refl v2) (.cells #[.string (nm), .string (⟨#[40]⟩ ++ sG ++ ⟨#[41, 58]⟩), .string (sT), .string (relB ki), .string (sB)] 9)
  have KN := hid (Blk.new v2 [.string (nm), .string (⟨#[40]⟩ ++ sG ++ ⟨#[41, 58]⟩), .string (sT), .string (relB ki), .string (sB)] 9)
  have P5 := hid (P4.out.keep ba)
  clear ba hH P4
  refine hK.out _ _ ?_ (fun hH => ?_)
  exact kr_all P5.out hk
  clear hK K
  (try simp only [Act.put, gy0, gy1, gy2])
  refine tk 14 hH ?_
  (try simp only [Act.put, gy0, gy1, gy2])
  refine wpAnyH_done (by kernel_rfl) ?_ _
  refine NoPanic.normal ?_
  clear hH
  have JN := hid (Tryz.strings_Join v2.heap.size 0 5 [nm, ⟨#[40]⟩ ++ sG ++ ⟨#[41, 58]⟩, sT, relB ki, sB] ⟨#[32]⟩ (v2.alloc (.cells #[.string (nm), .string (⟨#[40]⟩ ++ sG ++ ⟨#[41, 58]⟩), .string (sT), .string (relB ki), .string (sB)] 9)) (fun j x hj => by
    rw [Nat.zero_add, KN.out.cell]
    have hm := congrArg (Option.map Value.string) hj
    rw [← List.getElem?_map] at hm
    exact hm) KN.out.lt (by simp) (by simp) (by
    have l1 := zG.out
    have l2 := zB.out
    have l3 := zT.out
    have l4 := zN.out
    have l5 := relB_len ki
    simp only [List.map_cons, List.map_nil, join5, catL, ET.out, EG.out, EB.out, List.length_append, List.length_cons, List.length_nil, Array.length_toList]
    have l6 : nm.data.size = nm.size := rfl
    have l7 : (relB ki).data.size = (relB ki).size := rfl
    simp
    omega))
  have HP := hid P5.out.bel
  clear KN P5
  go_wp2_with fail
  refine (JN.out).mono ?_
  rintro e v5 ⟨rfl, b⟩
  have BB := hid (bx_call HP.out b)
  clear JN b HP
  go_wp2_with fail
  go_ret
  refine ⟨_, rfl, ?_, BB.out⟩
  show Lib.join _ _ = _
  unfold rowTx
  simp only [EG.out, EB.out, ET.out]

end Go.Proofs.YthbogaindaflpaaGreatDoor
