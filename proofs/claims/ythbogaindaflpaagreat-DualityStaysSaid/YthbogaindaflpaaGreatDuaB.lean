/- DuaB: Dua6, Dua7 in one text. -/
import Derived.Test.YthbogaindaflpaaGreatDuaA
import Derived.Deep.DeepCutAuto
import Derived.MapKept
import Derived.RangeFuncRecord
import Derived.BigQuiet
namespace Go.Proofs.YthbogaindaflpaaGreat
open Go.RowKit
set_option maxRecDepth 100000
def entry (k : Int) (v : Value) (n : Nat) : MapEntry := { key := .int .i64 k, val := v, born := n }
theorem put_new {W : World} {b : Nat} {es : Array MapEntry} {clock : Nat} (hb : W.heap[b]? = some (.map es clock)) {k : Int} {v : Value} (hn : Instr.findNow (.int .i64) (.int .i64 k) es.toList 0 = some none) :
    (Instr.mapUpdate 65 (.map (some b)) (.int .i64 k) v).run Tryz.prog W = .ok () (W.putObj b (.map (es.push (entry k v clock)) (clock + 1))) := by
  have h1 : Tryz.prog.underlying 65 = some (.map 3 63) := by kernel_rfl
  have h2 : Tryz.prog.underlying 3 = some (.int .i64) := by kernel_rfl
  have hk : MapKept.IsKey (.int .i64) (.int .i64 k) := by first | rfl | trivial | simp [MapKept.IsKey]
  simp [Instr.mapUpdate, run_underlying h1, MapKept.run_getObj_map hb, MapKept.run_checkKey h2 hk, MapKept.run_findKey h2 hn, MapKept.run_setObj_map _ hb, Result.andThen, entry, World.putObj]
theorem putObj_bel {w W : World} {b : Nat} {o : Obj} (h : Below w.heap.size w W) (hb : w.heap.size ≤ b) : Below w.heap.size w (W.putObj b o) :=
  h.trans ⟨rfl, rfl, rfl, by simp, fun k hk => World.putObj_heap_other (by omega)⟩
def chk0 : Array MapEntry := #[]
def chk1 : Array MapEntry := #[entry 0 (.func (.func 44) #[] #[]) 0]
def chk2 : Array MapEntry := #[entry 0 (.func (.func 44) #[] #[]) 0, entry 1 (.func (.func 46) #[] #[]) 1]
def chk3 : Array MapEntry := #[entry 0 (.func (.func 44) #[] #[]) 0, entry 1 (.func (.func 46) #[] #[]) 1, entry 2 (.func (.func 48) #[] #[]) 2]
def RetCh (w : World) (e : Ending) (w' : World) : Prop := ∃ b, e = .returned (.map (some b)) ∧ w'.heap[b]? = some (.map chk3 3) ∧ Below w.heap.size w w'
set_option maxHeartbeats 2000000 in
theorem d_checkers (w : World) : Calls Tryz.prog 22 #[] w (RetCh w) := by
  have hmm := @run_makeMap Tryz.prog
  obtain ⟨W0, h0⟩ : ∃ W, W = w.alloc (.map #[] 0) := ⟨_, rfl⟩
  have b0 : W0.heap[w.heap.size]? = some (.map chk0 0) := by rw [h0]; exact heap_alloc_new w _
  have l0 : w.heap.size < W0.heap.size := by rw [h0]; simp
  have p0 := put_new b0 (k := 0) (v := .func (.func 44) #[] #[]) rfl
  obtain ⟨W1, h1⟩ : ∃ W, W = W0.putObj w.heap.size (.map (chk0.push (entry 0 (.func (.func 44) #[] #[]) 0)) (0 + 1)) := ⟨_, rfl⟩
  have b1 : W1.heap[w.heap.size]? = some (.map chk1 1) := by rw [h1]; exact World.putObj_heap_same l0
  have l1 : w.heap.size < W1.heap.size := by rw [h1]; simpa using l0
  have p1 := put_new b1 (k := 1) (v := .func (.func 46) #[] #[]) rfl
  obtain ⟨W2, h2⟩ : ∃ W, W = W1.putObj w.heap.size (.map (chk1.push (entry 1 (.func (.func 46) #[] #[]) 1)) (1 + 1)) := ⟨_, rfl⟩
  have b2 : W2.heap[w.heap.size]? = some (.map chk2 2) := by rw [h2]; exact World.putObj_heap_same l1
  have l2 : w.heap.size < W2.heap.size := by rw [h2]; simpa using l1
  have p2 := put_new b2 (k := 2) (v := .func (.func 48) #[] #[]) rfl
  obtain ⟨W3, h3⟩ : ∃ W, W = W2.putObj w.heap.size (.map (chk2.push (entry 2 (.func (.func 48) #[] #[]) 2)) (2 + 1)) := ⟨_, rfl⟩
  have b3 : W3.heap[w.heap.size]? = some (.map chk3 3) := by rw [h3]; exact World.putObj_heap_same l2
  rw [← h1] at p0
  rw [← h2] at p1
  rw [← h3] at p2
  have bel : Below w.heap.size w W3 := by
    rw [h3, h2, h1, h0]
    exact putObj_bel (putObj_bel (putObj_bel (bx_alloc (bx_refl w) _) (Nat.le_refl _)) (Nat.le_refl _)) (Nat.le_refl _)
  have FIN := hid (⟨_, rfl, b3, bel⟩ : RetCh w (.returned (.map (some w.heap.size))) W3)
  rw [h0] at p0
  clear b0 b1 b2 b3 bel l0 l1 l2 h0 h1 h2 h3
  go_enter Tryz.func22, Tryz.ntmps22
  go_wp2_with fail
  go_ret
  exact FIN.out
theorem look_at {W : World} {b : Nat} {es : Array MapEntry} {clock : Nat} (hb : W.heap[b]? = some (.map es clock)) {k : Int} {v : Value} {i : Nat} (hn : Instr.findNow (.int .i64) (.int .i64 k) es.toList 0 = some (some (i, v))) :
    (Instr.lookup 65 (.map (some b)) (.int .i64 k) true).run Tryz.prog W = .ok (.tuple #[v, .bool true]) W := by
  have h1 : Tryz.prog.underlying 65 = some (.map 3 63) := by kernel_rfl
  have h2 : Tryz.prog.underlying 3 = some (.int .i64) := by kernel_rfl
  have hk : MapKept.IsKey (.int .i64) (.int .i64 k) := by first | rfl | trivial | simp [MapKept.IsKey]
  simp [Instr.lookup, run_underlying h1, MapKept.run_getObj_map hb, MapKept.run_checkKey h2 hk, MapKept.run_findKey h2 hn, Result.andThen]
theorem blk_seven {w : World} {b t : Nat} {x0 x1 x2 x3 x4 x5 x6 : Value} (h : Blk w b [x0, x1, x2, x3, x4, x5, x6] t) : w.cell? ⟨b, 0, none⟩ = some x0 ∧ w.cell? ⟨b, 1, none⟩ = some x1 ∧ w.cell? ⟨b, 2, none⟩ = some x2 ∧ w.cell? ⟨b, 3, none⟩ = some x3 ∧ w.cell? ⟨b, 4, none⟩ = some x4 ∧ w.cell? ⟨b, 5, none⟩ = some x5 ∧ w.cell? ⟨b, 6, none⟩ = some x6 := ⟨Blk.cell h 0, Blk.cell h 1, Blk.cell h 2, Blk.cell h 3, Blk.cell h 4, Blk.cell h 5, Blk.cell h 6⟩
def szB (pn mn yn a b c : Nat) : Bool := (decide (pn = a) && decide (mn = b)) && decide (yn = c)
set_option maxHeartbeats 2000000 in
theorem d_sized (kd : Int) (g : Bool) (A : Option Addr) (n c : Nat) (D : Option Addr) (m d : Nat) (PA : Option Addr) (pn pc : Nat) (MA : Option Addr) (mn mc : Nat) (YA : Option Addr) (yn yc a1 a2 a3 : Nat) (w : World) :
    Calls Tryz.prog 45 #[.agg #[.int .i64 kd, .bool g, .slice A n c, .slice D m d, .slice PA pn pc, .slice MA mn mc, .slice YA yn yc], .int .i64 (a1 : Int), .int .i64 (a2 : Int), .int .i64 (a3 : Int)] w (RetB w (szB pn mn yn a1 a2 a3)) := by
  have B0 := hid (bx_alloc (bx_refl w) (.cells #[.int .i64 kd, .bool g, .slice A n c, .slice D m d, .slice PA pn pc, .slice MA mn mc, .slice YA yn yc] 34))
  obtain ⟨r, hr⟩ : ∃ r, r = szB pn mn yn a1 a2 a3 := ⟨_, rfl⟩
  rw [← hr]
  have HR := hid hr
  clear hr
  by_cases h1 : pn = a1
  · have t1 : ((pn : Int) == (a1 : Int)) = true := beq_iff_eq.2 (by omega)
    have u1 : decide ((pn : Int) = (a1 : Int)) = true := decide_eq_true (by omega)
    by_cases h2 : mn = a2
    · have t2 : ((mn : Int) == (a2 : Int)) = true := beq_iff_eq.2 (by omega)
      have u2 : decide ((mn : Int) = (a2 : Int)) = true := decide_eq_true (by omega)
      by_cases h3 : yn = a3
      · have t3 : ((yn : Int) == (a3 : Int)) = true := beq_iff_eq.2 (by omega)
        have u3 : decide ((yn : Int) = (a3 : Int)) = true := decide_eq_true (by omega)
        have HH := hid (show r = true by rw [HR.out]; unfold szB; rw [decide_eq_true h1, decide_eq_true h2, decide_eq_true h3]; rfl)
        clear HR
        subst h1 h2 h3
        go_enter Tryz.func45, Tryz.ntmps45
        go_wp2_with fail
        go_ret
        exact vld_yes HH.out B0.out
      · have t3 : ((yn : Int) == (a3 : Int)) = false := beq_eq_false_iff_ne.2 (by omega)
        have u3 : decide ((yn : Int) = (a3 : Int)) = false := decide_eq_false (by omega)
        have v3 : decide (yn = a3) = false := decide_eq_false h3
        have HH := hid (show r = false by rw [HR.out]; unfold szB; rw [decide_eq_false h3, Bool.and_false])
        clear HR
        subst h1 h2
        have H3 := hid h3
        clear h3
        go_enter Tryz.func45, Tryz.ntmps45
        go_wp2_with fail
        go_ret
        exact vld_no HH.out B0.out
    · have t2 : ((mn : Int) == (a2 : Int)) = false := beq_eq_false_iff_ne.2 (by omega)
      have u2 : decide ((mn : Int) = (a2 : Int)) = false := decide_eq_false (by omega)
      have HH := hid (show r = false by rw [HR.out]; unfold szB; rw [decide_eq_false h2, Bool.and_false]; rfl)
      clear HR
      subst h1
      have H2 := hid h2
      clear h2
      go_enter Tryz.func45, Tryz.ntmps45
      go_wp2_with fail
      go_ret
      exact vld_no HH.out B0.out
  · have t1 : ((pn : Int) == (a1 : Int)) = false := beq_eq_false_iff_ne.2 (by omega)
    have u1 : decide ((pn : Int) = (a1 : Int)) = false := decide_eq_false (by omega)
    have HH := hid (show r = false by rw [HR.out]; unfold szB; rw [decide_eq_false h1]; rfl)
    clear HR
    have H1 := hid h1
    clear h1
    go_enter Tryz.func45, Tryz.ntmps45
    go_wp2_with fail
    go_ret
    exact vld_no HH.out B0.out
structure OD where
  kd : Int
  g : Bool
  A : Option Addr
  n : Nat
  c : Nat
  D : Option Addr
  m : Nat
  d : Nat
  q : Rat
  PA : Option Addr
  pn : Nat
  pc : Nat
  ps : Nat → Rat
  MA : Option Addr
  mn : Nat
  mc : Nat
  ms : Nat → Rat
  YA : Option Addr
  yn : Nat
  yc : Nat
  ys : Nat → Rat
structure Og (w : World) (o : OD) (k : Nat) : Prop where
  val : FrV w o.g o.A o.n o.c o.D o.m o.d k o.q
  pt : Qs w o.PA o.pn o.pc k o.ps
  mu : Qs w o.MA o.mn o.mc k o.ms
  ray : Qs w o.YA o.yn o.yc k o.ys
theorem Og.keep {w w' : World} {o : OD} {k : Nat} (h : Og w o k) (b : Below w.heap.size w w') : Og w' o k := ⟨h.val.keep b, h.pt.keep b, h.mu.keep b, h.ray.keep b⟩
def PD.ck1 (p : PD) (o : OD) : Bool := (szB o.pn o.mn o.yn p.vn p.rn 0 && p.optB (pt o.pn o.ps) (pt o.mn o.ms)) && decide (sgnQ (o.q - p.costV (pt o.pn o.ps)) = 0)
set_option maxHeartbeats 8000000 in
theorem d_ck1 (p : PD) (o : OD) (k : Nat) (w : World) (h : Pg w p) (ho : Og w o k) (hk : k ≤ 100) :
    Calls Tryz.prog 44 #[.agg #[.slice p.V0 p.vn p.vc, .slice p.R0 p.rn p.rc], .agg #[.int .i64 o.kd, .bool o.g, .slice o.A o.n o.c, .slice o.D o.m o.d, .slice o.PA o.pn o.pc, .slice o.MA o.mn o.mc, .slice o.YA o.yn o.yc]] w (RetB w (p.ck1 o)) := by
  obtain ⟨W0, hW⟩ : ∃ W, W = (w.alloc (.cells #[.slice p.V0 p.vn p.vc, .slice p.R0 p.rn p.rc] 25)).alloc (.cells #[.int .i64 o.kd, .bool o.g, .slice o.A o.n o.c, .slice o.D o.m o.d, .slice o.PA o.pn o.pc, .slice o.MA o.mn o.mc, .slice o.YA o.yn o.yc] 34) := ⟨_, rfl⟩
  have B0 := bx_alloc (bx_alloc (bx_refl w) (.cells #[.slice p.V0 p.vn p.vc, .slice p.R0 p.rn p.rc] 25)) (.cells #[.int .i64 o.kd, .bool o.g, .slice o.A o.n o.c, .slice o.D o.m o.d, .slice o.PA o.pn o.pc, .slice o.MA o.mn o.mc, .slice o.YA o.yn o.yc] 34)
  have K0 := (Blk.new w [.slice p.V0 p.vn p.vc, .slice p.R0 p.rn p.rc] 25).alloc (.cells #[.int .i64 o.kd, .bool o.g, .slice o.A o.n o.c, .slice o.D o.m o.d, .slice o.PA o.pn o.pc, .slice o.MA o.mn o.mc, .slice o.YA o.yn o.yc] 34)
  have K1 := blk_new1 w (.cells #[.slice p.V0 p.vn p.vc, .slice p.R0 p.rn p.rc] 25) [.int .i64 o.kd, .bool o.g, .slice o.A o.n o.c, .slice o.D o.m o.d, .slice o.PA o.pn o.pc, .slice o.MA o.mn o.mc, .slice o.YA o.yn o.yc] 34
  change Blk ((w.alloc (.cells #[.slice p.V0 p.vn p.vc, .slice p.R0 p.rn p.rc] 25)).alloc (.cells #[.int .i64 o.kd, .bool o.g, .slice o.A o.n o.c, .slice o.D o.m o.d, .slice o.PA o.pn o.pc, .slice o.MA o.mn o.mc, .slice o.YA o.yn o.yc] 34)) _ _ _ at K0 K1
  rw [← hW] at B0 K0 K1
  have SZ := hid (fun (W : World) => d_sized o.kd o.g o.A o.n o.c o.D o.m o.d o.PA o.pn o.pc o.MA o.mn o.mc o.YA o.yn o.yc p.vn p.rn 0 W)
  have OP := hid (fun (W : World) (b : Below w.heap.size w W) => d_optimal p o.PA o.pn o.pc k o.ps o.MA o.mn o.mc k o.ms W (h.keep b) (ho.pt.keep b) hk (ho.mu.keep b) hk)
  have CO := hid (fun (W : World) (b : Below w.heap.size w W) => d_cost p o.PA o.pn o.pc k o.ps W (h.keep b) (ho.pt.keep b) hk)
  have CP := hid (fun (W : World) (b : Below w.heap.size w W) (g1 : Bool) (A1 : Option Addr) (n1 c1 : Nat) (D1 : Option Addr) (m1 d1 : Nat) (z : Rat) (M : FrV W g1 A1 n1 c1 D1 m1 d1 10301 z) => vcmp o.g o.A o.n o.c o.D o.m o.d g1 A1 n1 c1 D1 m1 d1 10301 o.q z W ((ho.val.keep b).up (by omega)) M (by omega))
  obtain ⟨r, hr⟩ : ∃ r, r = p.ck1 o := ⟨_, rfl⟩
  rw [← hr]
  obtain ⟨b1, hb1⟩ : ∃ b, b = szB o.pn o.mn o.yn p.vn p.rn 0 := ⟨_, rfl⟩
  obtain ⟨b2, hb2⟩ : ∃ b, b = p.optB (pt o.pn o.ps) (pt o.mn o.ms) := ⟨_, rfl⟩
  obtain ⟨C, hC⟩ : ∃ c, c = p.costV (pt o.pn o.ps) := ⟨_, rfl⟩
  have er := hid (show r = ((b1 && b2) && decide (sgnQ (o.q - C) = 0)) by rw [hr, hb1, hb2, hC]; rfl)
  rw [← hb1] at SZ
  rw [← hb2] at OP
  rw [← hC] at CO
  have CP2 := hid (fun (W : World) (b : Below w.heap.size w W) (g1 : Bool) (A1 : Option Addr) (n1 c1 : Nat) (D1 : Option Addr) (m1 d1 : Nat) (M : FrV W g1 A1 n1 c1 D1 m1 d1 10301 C) => CP.out W b g1 A1 n1 c1 D1 m1 d1 C M)
  obtain ⟨V0, vn, vc, lo, up, op, it, co, R0, rn, rc, nm, gr, ki, bo, TA, tn, tc, v, cf⟩ := p
  obtain ⟨kd, g, A, n, c, D, m, d, q, PA, pn, pc, ps, MA, mn, mc, ms, YA, yn, yc, ys⟩ := o
  clear CP
  dsimp only at SZ OP CO CP2 hW K0 K1 B0 er ⊢
  obtain ⟨s, hs⟩ : ∃ s, s = sgnQ (q - C) := ⟨_, rfl⟩
  rw [← hs] at CP2 er
  have KP := hid K0
  have KO := hid K1
  have BB := hid B0
  clear h ho B0 K0 K1 hr hb1 hb2 hC hs
  go_enter Tryz.func44, Tryz.ntmps44
  go_upto_region 1 with fail
  rw [← hW]
  clear hW
  cases b1
  · have HH := hid (show r = false by rw [er.out]; rfl)
    clear OP CO CP2 er
    (try simp only [List.append_eq, List.cons_append, List.nil_append])
    refine wp_region_noPanic ?_
    refine wp_region_held_drew (S := (fun W => (W.cell? ⟨w.heap.size, 0, none⟩ = some (.slice V0 vn vc) ∧ W.cell? ⟨w.heap.size, 1, none⟩ = some (.slice R0 rn rc)) ∧ (W.cell? ⟨w.heap.size + 1, 0, none⟩ = some (.int .i64 kd) ∧ W.cell? ⟨w.heap.size + 1, 1, none⟩ = some (.bool g) ∧ W.cell? ⟨w.heap.size + 1, 2, none⟩ = some (.slice A n c) ∧ W.cell? ⟨w.heap.size + 1, 3, none⟩ = some (.slice D m d) ∧ W.cell? ⟨w.heap.size + 1, 4, none⟩ = some (.slice PA pn pc) ∧ W.cell? ⟨w.heap.size + 1, 5, none⟩ = some (.slice MA mn mc) ∧ W.cell? ⟨w.heap.size + 1, 6, none⟩ = some (.slice YA yn yc)))) (by kernel_rfl) ?_ (fun hH => ?_)
    exact (And.intro (blk_two KP.out) (blk_seven KO.out))
    have bd := bx_drew (bx_refl W0)
    obtain ⟨D0, hW0⟩ : ∃ W, W = W0.drew := ⟨_, rfl⟩
    rw [← hW0] at bd hH ⊢
    clear hW0
    have KP0 := hid (KP.out.keep bd)
    have KO0 := hid (KO.out.keep bd)
    have BB0 := hid (bx_call BB.out bd)
    clear bd KP KO BB
    refine tk 0 hH ?_
    (try simp only [Act.put, gy0, gy1, gy2])
    refine tk 1 hH ?_
    (try simp only [Act.put, gy0, gy1, gy2])
    refine tk 2 hH ?_
    (try simp only [Act.put, gy0, gy1, gy2])
    refine tk 3 hH ?_
    (try simp only [Act.put, gy0, gy1, gy2])
    refine tk 4 hH ?_
    (try simp only [Act.put, gy0, gy1, gy2])
    refine tk 5 hH ?_
    (try simp only [Act.put, gy0, gy1, gy2])
    refine tk 6 hH ?_
    (try simp only [Act.put, gy0, gy1, gy2])
    refine wpAnyH_ready (rs := [7]) (by kernel_rfl) (by simp) ?_
    refine rdy (fun K hK => ?_) AllReadyH.nil
    go_simp
    refine (SZ.out _).mono ?_
    rintro e v1 ⟨rfl, b⟩
    have KP1 := hid (KP0.out.keep b)
    have KO1 := hid (KO0.out.keep b)
    have BB1 := hid (bx_call BB0.out b)
    clear b hH KP0 KO0 BB0
    (try go_wp2_with fail)
    refine hK.out _ _ ?_ (fun hH => ?_)
    exact (And.intro (blk_two KP1.out) (blk_seven KO1.out))
    clear hK K
    (try simp only [Act.put, gy0, gy1, gy2])
    refine tk 8 hH ?_
    (try simp only [Act.put, gy0, gy1, gy2])
    refine tkn 9 hH ?_
    (try simp only [Act.put, gy0, gy1, gy2])
    refine tkn 10 hH ?_
    (try simp only [Act.put, gy0, gy1, gy2])
    refine tkn 11 hH ?_
    (try simp only [Act.put, gy0, gy1, gy2])
    refine tkn 12 hH ?_
    (try simp only [Act.put, gy0, gy1, gy2])
    refine tkn 13 hH ?_
    (try simp only [Act.put, gy0, gy1, gy2])
    refine tkn 14 hH ?_
    (try simp only [Act.put, gy0, gy1, gy2])
    refine tk 15 hH ?_
    (try simp only [Act.put, gy0, gy1, gy2])
    refine tk 16 hH ?_
    (try simp only [Act.put, gy0, gy1, gy2])
    refine tkn 17 hH ?_
    (try simp only [Act.put, gy0, gy1, gy2])
    refine tkn 18 hH ?_
    (try simp only [Act.put, gy0, gy1, gy2])
    refine tkn 19 hH ?_
    (try simp only [Act.put, gy0, gy1, gy2])
    refine tkn 20 hH ?_
    (try simp only [Act.put, gy0, gy1, gy2])
    refine tkn 21 hH ?_
    (try simp only [Act.put, gy0, gy1, gy2])
    refine tkn 22 hH ?_
    (try simp only [Act.put, gy0, gy1, gy2])
    refine tkn 23 hH ?_
    (try simp only [Act.put, gy0, gy1, gy2])
    refine tkn 24 hH ?_
    (try simp only [Act.put, gy0, gy1, gy2])
    refine tk 25 hH ?_
    (try simp only [Act.put, gy0, gy1, gy2])
    refine tk 26 hH ?_
    (try simp only [Act.put, gy0, gy1, gy2])
    refine wpAnyH_done (by kernel_rfl) ?_ _
    refine NoPanic.normal ?_
    clear hH
    go_wp2_with fail
    go_ret
    exact vld_no HH.out BB1.out
  cases b2
  · have HH := hid (show r = false by rw [er.out]; rfl)
    clear CO CP2 er
    (try simp only [List.append_eq, List.cons_append, List.nil_append])
    refine wp_region_noPanic ?_
    refine wp_region_held_drew (S := (fun W => (W.cell? ⟨w.heap.size, 0, none⟩ = some (.slice V0 vn vc) ∧ W.cell? ⟨w.heap.size, 1, none⟩ = some (.slice R0 rn rc)) ∧ (W.cell? ⟨w.heap.size + 1, 0, none⟩ = some (.int .i64 kd) ∧ W.cell? ⟨w.heap.size + 1, 1, none⟩ = some (.bool g) ∧ W.cell? ⟨w.heap.size + 1, 2, none⟩ = some (.slice A n c) ∧ W.cell? ⟨w.heap.size + 1, 3, none⟩ = some (.slice D m d) ∧ W.cell? ⟨w.heap.size + 1, 4, none⟩ = some (.slice PA pn pc) ∧ W.cell? ⟨w.heap.size + 1, 5, none⟩ = some (.slice MA mn mc) ∧ W.cell? ⟨w.heap.size + 1, 6, none⟩ = some (.slice YA yn yc)))) (by kernel_rfl) ?_ (fun hH => ?_)
    exact (And.intro (blk_two KP.out) (blk_seven KO.out))
    have bd := bx_drew (bx_refl W0)
    obtain ⟨D0, hW0⟩ : ∃ W, W = W0.drew := ⟨_, rfl⟩
    rw [← hW0] at bd hH ⊢
    clear hW0
    have KP0 := hid (KP.out.keep bd)
    have KO0 := hid (KO.out.keep bd)
    have BB0 := hid (bx_call BB.out bd)
    clear bd KP KO BB
    refine tk 0 hH ?_
    (try simp only [Act.put, gy0, gy1, gy2])
    refine tk 1 hH ?_
    (try simp only [Act.put, gy0, gy1, gy2])
    refine tk 2 hH ?_
    (try simp only [Act.put, gy0, gy1, gy2])
    refine tk 3 hH ?_
    (try simp only [Act.put, gy0, gy1, gy2])
    refine tk 4 hH ?_
    (try simp only [Act.put, gy0, gy1, gy2])
    refine tk 5 hH ?_
    (try simp only [Act.put, gy0, gy1, gy2])
    refine tk 6 hH ?_
    (try simp only [Act.put, gy0, gy1, gy2])
    refine wpAnyH_ready (rs := [7]) (by kernel_rfl) (by simp) ?_
    refine rdy (fun K hK => ?_) AllReadyH.nil
    go_simp
    refine (SZ.out _).mono ?_
    rintro e v1 ⟨rfl, b⟩
    have KP1 := hid (KP0.out.keep b)
    have KO1 := hid (KO0.out.keep b)
    have BB1 := hid (bx_call BB0.out b)
    clear b hH KP0 KO0 BB0
    (try go_wp2_with fail)
    refine hK.out _ _ ?_ (fun hH => ?_)
    exact (And.intro (blk_two KP1.out) (blk_seven KO1.out))
    clear hK K
    (try simp only [Act.put, gy0, gy1, gy2])
    refine tk 8 hH ?_
    (try simp only [Act.put, gy0, gy1, gy2])
    refine tk 9 hH ?_
    (try simp only [Act.put, gy0, gy1, gy2])
    refine tk 10 hH ?_
    (try simp only [Act.put, gy0, gy1, gy2])
    refine tk 11 hH ?_
    (try simp only [Act.put, gy0, gy1, gy2])
    refine tk 12 hH ?_
    (try simp only [Act.put, gy0, gy1, gy2])
    refine tk 13 hH ?_
    (try simp only [Act.put, gy0, gy1, gy2])
    refine wpAnyH_ready (rs := [14]) (by kernel_rfl) (by simp) ?_
    refine rdy (fun K hK => ?_) AllReadyH.nil
    go_simp
    refine (OP.out v1 BB1.out).mono ?_
    rintro e v2 ⟨rfl, b⟩
    have KP2 := hid (KP1.out.keep b)
    have KO2 := hid (KO1.out.keep b)
    have BB2 := hid (bx_call BB1.out b)
    clear b hH KP1 KO1 BB1
    (try go_wp2_with fail)
    refine hK.out _ _ ?_ (fun hH => ?_)
    exact (And.intro (blk_two KP2.out) (blk_seven KO2.out))
    clear hK K
    (try simp only [Act.put, gy0, gy1, gy2])
    refine tk 15 hH ?_
    (try simp only [Act.put, gy0, gy1, gy2])
    refine tk 16 hH ?_
    (try simp only [Act.put, gy0, gy1, gy2])
    refine tkn 17 hH ?_
    (try simp only [Act.put, gy0, gy1, gy2])
    refine tkn 18 hH ?_
    (try simp only [Act.put, gy0, gy1, gy2])
    refine tkn 19 hH ?_
    (try simp only [Act.put, gy0, gy1, gy2])
    refine tkn 20 hH ?_
    (try simp only [Act.put, gy0, gy1, gy2])
    refine tkn 21 hH ?_
    (try simp only [Act.put, gy0, gy1, gy2])
    refine tkn 22 hH ?_
    (try simp only [Act.put, gy0, gy1, gy2])
    refine tkn 23 hH ?_
    (try simp only [Act.put, gy0, gy1, gy2])
    refine tkn 24 hH ?_
    (try simp only [Act.put, gy0, gy1, gy2])
    refine tk 25 hH ?_
    (try simp only [Act.put, gy0, gy1, gy2])
    refine tk 26 hH ?_
    (try simp only [Act.put, gy0, gy1, gy2])
    refine wpAnyH_done (by kernel_rfl) ?_ _
    refine NoPanic.normal ?_
    clear hH
    go_wp2_with fail
    go_ret
    exact vld_no HH.out BB2.out
  have er2 := hid (show r = (s == 0) by rw [er.out]; rfl)
  clear er
  (try simp only [List.append_eq, List.cons_append, List.nil_append])
  refine wp_region_noPanic ?_
  refine wp_region_held_drew (S := (fun W => (W.cell? ⟨w.heap.size, 0, none⟩ = some (.slice V0 vn vc) ∧ W.cell? ⟨w.heap.size, 1, none⟩ = some (.slice R0 rn rc)) ∧ (W.cell? ⟨w.heap.size + 1, 0, none⟩ = some (.int .i64 kd) ∧ W.cell? ⟨w.heap.size + 1, 1, none⟩ = some (.bool g) ∧ W.cell? ⟨w.heap.size + 1, 2, none⟩ = some (.slice A n c) ∧ W.cell? ⟨w.heap.size + 1, 3, none⟩ = some (.slice D m d) ∧ W.cell? ⟨w.heap.size + 1, 4, none⟩ = some (.slice PA pn pc) ∧ W.cell? ⟨w.heap.size + 1, 5, none⟩ = some (.slice MA mn mc) ∧ W.cell? ⟨w.heap.size + 1, 6, none⟩ = some (.slice YA yn yc)))) (by kernel_rfl) ?_ (fun hH => ?_)
  exact (And.intro (blk_two KP.out) (blk_seven KO.out))
  have bd := bx_drew (bx_refl W0)
  obtain ⟨D0, hW0⟩ : ∃ W, W = W0.drew := ⟨_, rfl⟩
  rw [← hW0] at bd hH ⊢
  clear hW0
  have KP0 := hid (KP.out.keep bd)
  have KO0 := hid (KO.out.keep bd)
  have BB0 := hid (bx_call BB.out bd)
  clear bd KP KO BB
  refine tk 0 hH ?_
  (try simp only [Act.put, gy0, gy1, gy2])
  refine tk 1 hH ?_
  (try simp only [Act.put, gy0, gy1, gy2])
  refine tk 2 hH ?_
  (try simp only [Act.put, gy0, gy1, gy2])
  refine tk 3 hH ?_
  (try simp only [Act.put, gy0, gy1, gy2])
  refine tk 4 hH ?_
  (try simp only [Act.put, gy0, gy1, gy2])
  refine tk 5 hH ?_
  (try simp only [Act.put, gy0, gy1, gy2])
  refine tk 6 hH ?_
  (try simp only [Act.put, gy0, gy1, gy2])
  refine wpAnyH_ready (rs := [7]) (by kernel_rfl) (by simp) ?_
  refine rdy (fun K hK => ?_) AllReadyH.nil
  go_simp
  refine (SZ.out _).mono ?_
  rintro e v1 ⟨rfl, b⟩
  have KP1 := hid (KP0.out.keep b)
  have KO1 := hid (KO0.out.keep b)
  have BB1 := hid (bx_call BB0.out b)
  clear b hH KP0 KO0 BB0
  (try go_wp2_with fail)
  refine hK.out _ _ ?_ (fun hH => ?_)
  exact (And.intro (blk_two KP1.out) (blk_seven KO1.out))
  clear hK K
  (try simp only [Act.put, gy0, gy1, gy2])
  refine tk 8 hH ?_
  (try simp only [Act.put, gy0, gy1, gy2])
  refine tk 9 hH ?_
  (try simp only [Act.put, gy0, gy1, gy2])
  refine tk 10 hH ?_
  (try simp only [Act.put, gy0, gy1, gy2])
  refine tk 11 hH ?_
  (try simp only [Act.put, gy0, gy1, gy2])
  refine tk 12 hH ?_
  (try simp only [Act.put, gy0, gy1, gy2])
  refine tk 13 hH ?_
  (try simp only [Act.put, gy0, gy1, gy2])
  refine wpAnyH_ready (rs := [14]) (by kernel_rfl) (by simp) ?_
  refine rdy (fun K hK => ?_) AllReadyH.nil
  go_simp
  refine (OP.out v1 BB1.out).mono ?_
  rintro e v2 ⟨rfl, b⟩
  have KP2 := hid (KP1.out.keep b)
  have KO2 := hid (KO1.out.keep b)
  have BB2 := hid (bx_call BB1.out b)
  clear b hH KP1 KO1 BB1
  (try go_wp2_with fail)
  refine hK.out _ _ ?_ (fun hH => ?_)
  exact (And.intro (blk_two KP2.out) (blk_seven KO2.out))
  clear hK K
  (try simp only [Act.put, gy0, gy1, gy2])
  refine tk 15 hH ?_
  (try simp only [Act.put, gy0, gy1, gy2])
  refine tk 16 hH ?_
  (try simp only [Act.put, gy0, gy1, gy2])
  refine tk 17 hH ?_
  (try simp only [Act.put, gy0, gy1, gy2])
  refine tk 18 hH ?_
  (try simp only [Act.put, gy0, gy1, gy2])
  refine tk 19 hH ?_
  (try simp only [Act.put, gy0, gy1, gy2])
  refine tk 20 hH ?_
  (try simp only [Act.put, gy0, gy1, gy2])
  refine tk 21 hH ?_
  (try simp only [Act.put, gy0, gy1, gy2])
  refine wpAnyH_ready (rs := [22]) (by kernel_rfl) (by simp) ?_
  refine rdy (fun K hK => ?_) AllReadyH.nil
  go_simp
  refine (CO.out v2 BB2.out).mono ?_
  rintro e v3 ⟨g1, A1, na1, c1, D1, m1, d1, rfl, r3, b⟩
  have KP3 := hid (KP2.out.keep b)
  have KO3 := hid (KO2.out.keep b)
  have BB3 := hid (bx_call BB2.out b)
  clear b hH KP2 KO2 BB2
  have R3 := hid r3
  clear r3
  (try go_wp2_with fail)
  refine hK.out _ _ ?_ (fun hH => ?_)
  exact (And.intro (blk_two KP3.out) (blk_seven KO3.out))
  clear hK K
  (try simp only [Act.put, gy0, gy1, gy2])
  refine wpAnyH_ready (rs := [23]) (by kernel_rfl) (by simp) ?_
  refine rdy (fun K hK => ?_) AllReadyH.nil
  go_simp
  refine (CP2.out v3 BB3.out g1 A1 na1 c1 D1 m1 d1 R3.out).mono ?_
  rintro e v4 ⟨rfl, b⟩
  have KP4 := hid (KP3.out.keep b)
  have KO4 := hid (KO3.out.keep b)
  have BB4 := hid (bx_call BB3.out b)
  clear b hH KP3 KO3 BB3
  (try go_wp2_with fail)
  refine hK.out _ _ ?_ (fun hH => ?_)
  exact (And.intro (blk_two KP4.out) (blk_seven KO4.out))
  clear hK K
  (try simp only [Act.put, gy0, gy1, gy2])
  refine tk 24 hH ?_
  (try simp only [Act.put, gy0, gy1, gy2])
  refine tk 25 hH ?_
  (try simp only [Act.put, gy0, gy1, gy2])
  refine tk 26 hH ?_
  (try simp only [Act.put, gy0, gy1, gy2])
  refine wpAnyH_done (by kernel_rfl) ?_ _
  refine NoPanic.normal ?_
  clear hH
  go_wp2_with fail
  go_ret
  exact (show RetB w r (.returned (.bool (s == 0))) v4 from ⟨by rw [er2.out], BB4.out⟩)
def PD.chk1 (p : PD) (o : OD) : Int := if p.okB = true then (if p.ck1 o = true then 0 else 13) else 1
set_option maxHeartbeats 4000000 in
theorem d_check1 (p : PD) (o : OD) (k : Nat) (w : World) (h : Pg w p) (ho : Og w o k) (hk : k ≤ 100) (hkd : o.kd = 0) :
    Calls Tryz.prog 8 #[.agg #[.slice p.V0 p.vn p.vc, .slice p.R0 p.rn p.rc], .agg #[.int .i64 0, .bool o.g, .slice o.A o.n o.c, .slice o.D o.m o.d, .slice o.PA o.pn o.pc, .slice o.MA o.mn o.mc, .slice o.YA o.yn o.yc]] w (RetI w (p.chk1 o)) := by
  obtain ⟨W0, hW⟩ : ∃ W, W = (w.alloc (.cells #[.slice p.V0 p.vn p.vc, .slice p.R0 p.rn p.rc] 25)).alloc (.cells #[.int .i64 0, .bool o.g, .slice o.A o.n o.c, .slice o.D o.m o.d, .slice o.PA o.pn o.pc, .slice o.MA o.mn o.mc, .slice o.YA o.yn o.yc] 34) := ⟨_, rfl⟩
  have B0 := bx_alloc (bx_alloc (bx_refl w) (.cells #[.slice p.V0 p.vn p.vc, .slice p.R0 p.rn p.rc] 25)) (.cells #[.int .i64 0, .bool o.g, .slice o.A o.n o.c, .slice o.D o.m o.d, .slice o.PA o.pn o.pc, .slice o.MA o.mn o.mc, .slice o.YA o.yn o.yc] 34)
  have K0 := (Blk.new w [.slice p.V0 p.vn p.vc, .slice p.R0 p.rn p.rc] 25).alloc (.cells #[.int .i64 0, .bool o.g, .slice o.A o.n o.c, .slice o.D o.m o.d, .slice o.PA o.pn o.pc, .slice o.MA o.mn o.mc, .slice o.YA o.yn o.yc] 34)
  have K1 := blk_new1 w (.cells #[.slice p.V0 p.vn p.vc, .slice p.R0 p.rn p.rc] 25) [.int .i64 0, .bool o.g, .slice o.A o.n o.c, .slice o.D o.m o.d, .slice o.PA o.pn o.pc, .slice o.MA o.mn o.mc, .slice o.YA o.yn o.yc] 34
  change Blk ((w.alloc (.cells #[.slice p.V0 p.vn p.vc, .slice p.R0 p.rn p.rc] 25)).alloc (.cells #[.int .i64 0, .bool o.g, .slice o.A o.n o.c, .slice o.D o.m o.d, .slice o.PA o.pn o.pc, .slice o.MA o.mn o.mc, .slice o.YA o.yn o.yc] 34)) _ _ _ at K0 K1
  rw [← hW] at B0 K0 K1
  have VA := hid (fun (W : World) (b : Below w.heap.size w W) => d_valid p W (h.keep b))
  have CK := hid (fun (W : World) (b : Below w.heap.size w W) => d_ck1 p o k W (h.keep b) (ho.keep b) hk)
  obtain ⟨r, hr⟩ : ∃ r, r = p.chk1 o := ⟨_, rfl⟩
  rw [← hr]
  obtain ⟨b1, hb1⟩ : ∃ b, b = p.okB := ⟨_, rfl⟩
  obtain ⟨b2, hb2⟩ : ∃ b, b = p.ck1 o := ⟨_, rfl⟩
  have er := hid (show r = if b1 = true then (if b2 = true then 0 else 13) else 1 by rw [hr, hb1, hb2]; rfl)
  rw [← hb1] at VA
  rw [← hb2] at CK
  rw [hkd] at CK
  obtain ⟨V0, vn, vc, lo, up, op, it, co, R0, rn, rc, nm, gr, ki, bo, TA, tn, tc, v, cf⟩ := p
  obtain ⟨kd, g, A, n, c, D, m, d, q, PA, pn, pc, ps, MA, mn, mc, ms, YA, yn, yc, ys⟩ := o
  dsimp only at VA CK hW K0 K1 B0 ⊢
  have KP := hid K0
  have KO := hid K1
  have BB := hid B0
  clear h ho B0 K0 K1 hr hb1 hb2 hkd
  go_enter Tryz.func8, Tryz.ntmps8
  go_upto_region 1 with fail
  rw [← hW]
  clear hW
  (try simp only [List.append_eq, List.cons_append, List.nil_append])
  refine wp_region_noPanic ?_
  refine wp_region_held_drew (S := (fun W => W.cell? ⟨w.heap.size + 1, 0, none⟩ = some (.int .i64 0))) (by kernel_rfl) ?_ (fun hH => ?_)
  exact (blk_seven KO.out).1
  have bd := bx_drew (bx_refl W0)
  obtain ⟨D0, hW0⟩ : ∃ W, W = W0.drew := ⟨_, rfl⟩
  rw [← hW0] at bd hH ⊢
  clear hW0
  have KP0 := hid (KP.out.keep bd)
  have KO0 := hid (KO.out.keep bd)
  have BB0 := hid (bx_call BB.out bd)
  clear bd KP KO BB
  refine tk 1 hH ?_
  (try simp only [Act.put, gy0, gy1, gy2])
  refine tk 2 hH ?_
  (try simp only [Act.put, gy0, gy1, gy2])
  refine wpAnyH_ready (rs := [0]) (by kernel_rfl) (by simp) ?_
  refine rdy (fun K hK => ?_) AllReadyH.nil
  go_simp
  refine (d_checkers _).mono ?_
  rintro e v1 ⟨mb, rfl, hm, b⟩
  have lk := look_at hm (k := 0) (v := .func (.func 44) #[] #[]) (i := 0) rfl
  have KP1 := hid (KP0.out.keep b)
  have KO1 := hid (KO0.out.keep b)
  have BB1 := hid (bx_call BB0.out b)
  clear b hH KP0 KO0 BB0 hm
  (try go_wp2_with fail)
  refine hK.out _ _ ?_ (fun hH => ?_)
  exact (blk_seven KO1.out).1
  clear hK K
  (try simp only [Act.put, gy0, gy1, gy2])
  refine wpAnyH_ready (rs := [3]) (by kernel_rfl) (by simp) ?_
  refine rdy (fun K hK => ?_) AllReadyH.nil
  go_simp
  refine hK.out _ _ ?_ (fun hH => ?_)
  exact (blk_seven KO1.out).1
  clear hK K
  (try simp only [Act.put, gy0, gy1, gy2])
  refine tk 4 hH ?_
  (try simp only [Act.put, gy0, gy1, gy2])
  refine tk 5 hH ?_
  (try simp only [Act.put, gy0, gy1, gy2])
  refine tk 6 hH ?_
  (try simp only [Act.put, gy0, gy1, gy2])
  refine tk 7 hH ?_
  (try simp only [Act.put, gy0, gy1, gy2])
  refine tk 8 hH ?_
  (try simp only [Act.put, gy0, gy1, gy2])
  refine wpAnyH_done (by kernel_rfl) ?_ _
  refine NoPanic.normal ?_
  clear hH
  clear lk
  obtain ⟨p0, p1⟩ := blk_two KP1.out
  have V1 := hid (VA.out v1 BB1.out)
  clear VA
  go_wp2_with fail
  refine (V1.out).mono ?_
  rintro e v2 ⟨rfl, b⟩
  have KP2 := hid (KP1.out.keep b)
  have KO2 := hid (KO1.out.keep b)
  have BB2 := hid (bx_call BB1.out b)
  clear p0 p1 V1 b KP1 KO1 BB1
  cases b1
  · have HH := hid (show RetI w r (.returned (.int .i64 1)) v2 from ⟨by rw [er.out]; rfl, BB2.out⟩)
    clear CK er KP2 KO2 BB2
    go_wp2_with fail
    go_ret
    exact HH.out
  have C2 := hid (CK.out v2 BB2.out)
  obtain ⟨p0, p1⟩ := blk_two KP2.out
  obtain ⟨o0, o1, o2, o3, o4, o5, o6⟩ := blk_seven KO2.out
  clear CK KP2 KO2
  go_wp2_with fail
  refine (C2.out).mono ?_
  rintro e v3 ⟨rfl, b⟩
  have BB3 := hid (bx_call BB2.out b)
  clear C2 b BB2 p0 p1 o0 o1 o2 o3 o4 o5 o6
  cases b2
  · have HH := hid (show RetI w r (.returned (.int .i64 13)) v3 from ⟨by rw [er.out]; rfl, BB3.out⟩)
    clear er BB3
    go_wp2_with fail
    go_ret
    exact HH.out
  · have HH := hid (show RetI w r (.returned (.int .i64 0)) v3 from ⟨by rw [er.out]; rfl, BB3.out⟩)
    clear er BB3
    go_wp2_with fail
    go_ret
    exact HH.out
end Go.Proofs.YthbogaindaflpaaGreat
