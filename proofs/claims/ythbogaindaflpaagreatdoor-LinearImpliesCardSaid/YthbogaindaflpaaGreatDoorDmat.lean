/- What the proofs of duality exclude; small inputs. -/
import Derived.Test.YthbogaindaflpaaGreatDoorExs
import Derived.Test.YthbogaindaflpaaGreatDoorDuaA
namespace Go.Proofs.YthbogaindaflpaaGreatDoor
open Go.RowKit

theorem PD.fea_ins {p : PD} {x : Nat → Rat} (h : p.feaB x = true) : ∀ j, j < p.vn → within (p.op j) (p.lo j) (p.up j) (x j) := by
  unfold PD.feaB PD.inB insB at h
  rw [Bool.and_eq_true] at h
  exact of_decide_eq_true h.1
theorem PD.fea_hol {p : PD} {x : Nat → Rat} (h : p.feaB x = true) : ∀ i, i < p.rn → holdB (p.ki i) (p.bo i) (rowV p.vn (p.tn i) (p.v i) (p.cf i) x) = true := by
  unfold PD.feaB at h
  rw [Bool.and_eq_true] at h
  exact of_decide_eq_true h.2
/-- A proof of infeasibility leaves no feasible point. -/
theorem PD.inf_no {p : PD} {x y : Nat → Rat} (hi : p.infB y = true) : p.feaB x = false := by
  cases hf : p.feaB x
  · rfl
  · exfalso
    have h1 := PD.fea_ins hf
    have h2 := PD.fea_hol hf
    unfold PD.infB at hi
    rw [Bool.and_eq_true, Bool.and_eq_true, Bool.or_eq_true] at hi
    obtain ⟨⟨_, hs⟩, he⟩ := hi
    have hs : ∀ i, i < p.rn → suits (p.ki i) (y i) := of_decide_eq_true hs
    rcases he with he | he
    · rw [inside_room h1] at he
      cases he
    · unfold PD.excB at he
      rw [Bool.and_eq_true] at he
      have h3 := sgnQ_pos'.1 (of_decide_eq_true he.2)
      refine weak_no hs h2 h1 he.1 ?_
      have e : p.negV y = fun j => -cmbA p.rn p.tn p.v p.cf y j := rfl
      rw [e] at h3
      grind
theorem PD.opt_fea {p : PD} {x y : Nat → Rat} (h : p.optB x y = true) : p.feaB x = true := by
  unfold PD.optB at h
  simp only [Bool.and_eq_true] at h
  exact h.1.2
theorem PD.opt_bnd {p : PD} {x y : Nat → Rat} (h : p.optB x y = true) : p.bndB y = true := by
  unfold PD.optB at h
  simp only [Bool.and_eq_true] at h
  exact h.2.1
theorem PD.unb_fea {p : PD} {x y : Nat → Rat} (h : p.unbB x y = true) : p.feaB x = true := by
  unfold PD.unbB at h
  simp only [Bool.and_eq_true] at h
  exact h.1.2
/-- A bound leaves no ray. -/
theorem PD.bnd_no {p : PD} {x y ray : Nat → Rat} (hb : p.bndB y = true) : p.unbB x ray = false := by
  cases hu : p.unbB x ray
  · rfl
  · exfalso
    unfold PD.unbB PD.dirB at hu
    simp only [Bool.and_eq_true] at hu
    obtain ⟨_, hd, hc⟩ := hu
    have h1 := PD.fea_ins hd
    have h2 := PD.fea_hol hd
    unfold PD.bndB at hb
    simp only [Bool.and_eq_true] at hb
    obtain ⟨⟨_, hs⟩, hl⟩ := hb
    have hs : ∀ i, i < p.rn → suits (p.ki i) (y i) := of_decide_eq_true hs
    exact weak_ray hs h2 h1 hl (sgnQ_neg'.1 (of_decide_eq_true hc))
/-- No two kinds at once. -/
theorem PD.kinds {p : PD} {x y z ray : Nat → Rat} : (!(p.infB y && p.optB x z) && !(p.infB y && p.unbB x ray) && !(p.optB x z && p.unbB x ray)) = true := by
  cases h1 : p.infB y
  · cases h2 : p.optB x z
    · rfl
    · rw [PD.bnd_no (PD.opt_bnd h2)]; rfl
  · have h3 := PD.inf_no (x := x) h1
    have h2 : p.optB x z = false := by
      cases h : p.optB x z
      · rfl
      · rw [PD.opt_fea h] at h3; cases h3
    have h4 : p.unbB x ray = false := by
      cases h : p.unbB x ray
      · rfl
      · rw [PD.unb_fea h] at h3; cases h3
    rw [h2, h4]; rfl
/-- The program lies in memory, of any size. -/
structure Pw (w : World) (p : PD) : Prop where
  vs : Vs w p.V0 p.vn p.vc p.lo p.up p.op p.it p.co
  rs : Rs w p.R0 p.rn p.rc p.nm p.gr p.ki p.bo p.TA p.tn p.tc p.v p.cf
  nms : ∀ j, j < p.rn → (p.nm j).size ≤ 9223372036854775807
theorem Pw.keep {w w' : World} {p : PD} (h : Pw w p) (b : Below w.heap.size w w') : Pw w' p := ⟨h.vs.keep b, h.rs.keep b, h.nms⟩
theorem Pw.pg {w : World} {p : PD} (h : Pw w p) (hs : fewP p.vn p.rn p.nm p.tn 6 8 = true) : Pg w p := by
  unfold fewP at hs
  simp only [Bool.and_eq_true] at hs
  have h1 := of_decide_eq_true hs.1
  have h2 := of_decide_eq_true hs.2.1
  have h3 := of_decide_eq_true hs.2.2
  exact ⟨h.vs, h.rs, h.nms, by omega, by omega, fun i hi => by have := (h1 i hi).1; omega⟩
/-- A list of fractions, as it lies in memory. -/
structure LD where
  A : Option Addr
  n : Nat
  c : Nat
  N : Nat → Nat
  M : Nat → Nat
  qs : Nat → Rat
def LD.v (l : LD) : Value := .slice l.A l.n l.c
def LD.ok (w : World) (l : LD) : Prop := Qw w l.A l.n l.c l.N l.M l.qs
theorem LD.ok.keep {w w' : World} {l : LD} (h : l.ok w) (b : Below w.heap.size w w') : l.ok w' := Qw.keep h b
def LD.sm (l : LD) : Bool := shortB 10 l.n l.N l.M
theorem LD.ok.q {w : World} {l : LD} (h : l.ok w) (hs : l.sm = true) : Qs w l.A l.n l.c 4 l.qs := by
  unfold LD.sm shortB at hs
  rw [Bool.and_eq_true] at hs
  exact Qw.qs h hs.2
/-- Small: the program and a list of lists. -/
def smL (p : PD) (ls : List LD) : Bool := decide (∀ l, l ∈ ls → l.sm = true) && fewP p.vn p.rn p.nm p.tn 6 8
def ldZ : LD := ⟨none, 0, 0, fun _ => 0, fun _ => 0, fun _ => 0⟩
end Go.Proofs.YthbogaindaflpaaGreatDoor
