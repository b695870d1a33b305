/- RelationAlgebra: the law's own text, walked: it returns true for every three relations. -/
import Derived.Test.YtfjikeejifhnbaaDoorRBox
namespace Go.Proofs.YtfjikeejifhnbaaDoor
open Go.RowKit
def pk3 (x y z : RelD) : Nat → RelD | 0 => x | 1 => y | _ => z
section
variable {w wr : World} {x y z : RelD}
theorem TriB.ca (h : TriB w wr (pk3 x y z)) : wr.cell? ⟨w.heap.size, 0, none⟩ = some (.slice x.A x.n x.c) := h.a.c0
theorem TriB.cb (h : TriB w wr (pk3 x y z)) : wr.cell? ⟨w.heap.size + 1, 0, none⟩ = some (.slice y.A y.n y.c) := h.b.c0
theorem TriB.cc (h : TriB w wr (pk3 x y z)) : wr.cell? ⟨w.heap.size + 2, 0, none⟩ = some (.slice z.A z.n z.c) := h.c.c0
end
def relV (x : RelD) : Value := .agg #[.slice x.A x.n x.c]
set_option maxRecDepth 100000 in
set_option maxHeartbeats 8000000 in
theorem alg_big (x y z : RelD) (w : World) (hx : Rel w x.A x.n x.R) (hy : Rel w y.A y.n y.R) (hz : Rel w z.A z.n z.R) (hT : Tab w) (hg : ∃ k, k < 3 ∧ Great (pk3 x y z k).n (pk3 x y z k).R) :
    Calls Tryd.prog 7 #[.agg #[.slice x.A x.n x.c], .agg #[.slice y.A y.n y.c], .agg #[.slice z.A z.n z.c]] w fun e w' => e = .returned (.bool true) ∧ Below w.heap.size w w' := by
  have HG := Lib.hid hg; clear hg
  have hT0 : TriB w _ (pk3 x y z) := triB_new w (pk3 x y z) hx hy hz
  clear hx hy hz
  replace hT0 : TriB w (((w.alloc (.cells #[.slice x.A x.n x.c] 24)).alloc (.cells #[.slice y.A y.n y.c] 24)).alloc (.cells #[.slice z.A z.n z.c] 24)) (pk3 x y z) := hT0
  go_enter Tryd.func7, Tryd.ntmps7
  go_wp2_with fail
  refine (awake_any _ (hT.below hT0.f)).mono ?_; rintro e w1 ⟨rfl, b1⟩
  have hT1 := hT0.next b1
  clear hT0 b1
  have c0 := hT1.ca
  have c1 := hT1.cb
  have c2 := hT1.cc
  go_wp2_with fail
  clear c0 c1 c2
  refine (great_any w1.heap.size 3 (pk3 x y z) true _ (rels_three w1 (pk3 x y z) hT1.ra hT1.rb hT1.rc) (by decide) (Or.inl ⟨rfl, HG.out⟩)).mono ?_; rintro e w2 ⟨rfl, b2⟩
  have hT2 := hT1.next (((Below.refl _ _).alloc (Nat.le_refl _) _).trans (b2.mono (by simp)))
  clear hT1 b2
  go_wp2_with fail
  go_ret
  exact ⟨rfl, hT2.f⟩
set_option maxRecDepth 100000 in
set_option maxHeartbeats 8000000 in
theorem alg_va (x y z : RelD) (w : World) (hx : Rel w x.A x.n x.R) (hy : Rel w y.A y.n y.R) (hz : Rel w z.A z.n z.R) (hT : Tab w) (hg : ∀ k, k < 3 → ¬ Great (pk3 x y z k).n (pk3 x y z k).R) (vx : ¬ VRel x.n x.R) :
    Calls Tryd.prog 7 #[.agg #[.slice x.A x.n x.c], .agg #[.slice y.A y.n y.c], .agg #[.slice z.A z.n z.c]] w fun e w' => e = .returned (.bool true) ∧ Below w.heap.size w w' := by
  have HG := Lib.hid hg; clear hg
  have VX := Lib.hid vx; clear vx
  have hT0 : TriB w _ (pk3 x y z) := triB_new w (pk3 x y z) hx hy hz
  clear hx hy hz
  replace hT0 : TriB w (((w.alloc (.cells #[.slice x.A x.n x.c] 24)).alloc (.cells #[.slice y.A y.n y.c] 24)).alloc (.cells #[.slice z.A z.n z.c] 24)) (pk3 x y z) := hT0
  go_enter Tryd.func7, Tryd.ntmps7
  go_wp2_with fail
  refine (awake_any _ (hT.below hT0.f)).mono ?_; rintro e w1 ⟨rfl, b1⟩
  have hT1 := hT0.next b1
  clear hT0 b1
  have c0 := hT1.ca
  have c1 := hT1.cb
  have c2 := hT1.cc
  go_wp2_with fail
  clear c0 c1 c2
  refine (great_any w1.heap.size 3 (pk3 x y z) false _ (rels_three w1 (pk3 x y z) hT1.ra hT1.rb hT1.rc) (by decide) (Or.inr ⟨rfl, HG.out⟩)).mono ?_; rintro e w2 ⟨rfl, b2⟩
  have hT2 := hT1.next (((Below.refl _ _).alloc (Nat.le_refl _) _).trans (b2.mono (by simp)))
  clear hT1 b2
  have c0 := hT2.ca
  have c1 := hT2.cb
  have c2 := hT2.cc
  go_wp2_with fail
  clear c0 c1 c2
  refine (refValid_no x.A x.n x.c x.R _ hT2.ra VX.out).mono ?_; rintro e w3 ⟨rfl, b3⟩
  have hT3 := hT2.next b3
  clear hT2 b3
  go_wp2_with fail
  go_ret
  exact ⟨rfl, hT3.f⟩
set_option maxRecDepth 100000 in
set_option maxHeartbeats 8000000 in
theorem alg_vb (x y z : RelD) (w : World) (hx : Rel w x.A x.n x.R) (hy : Rel w y.A y.n y.R) (hz : Rel w z.A z.n z.R) (hT : Tab w) (hg : ∀ k, k < 3 → ¬ Great (pk3 x y z k).n (pk3 x y z k).R) (vx : VRel x.n x.R) (vy : ¬ VRel y.n y.R) :
    Calls Tryd.prog 7 #[.agg #[.slice x.A x.n x.c], .agg #[.slice y.A y.n y.c], .agg #[.slice z.A z.n z.c]] w fun e w' => e = .returned (.bool true) ∧ Below w.heap.size w w' := by
  have HG := Lib.hid hg; clear hg
  have VX := Lib.hid vx; clear vx
  have VY := Lib.hid vy; clear vy
  have hT0 : TriB w _ (pk3 x y z) := triB_new w (pk3 x y z) hx hy hz
  clear hx hy hz
  replace hT0 : TriB w (((w.alloc (.cells #[.slice x.A x.n x.c] 24)).alloc (.cells #[.slice y.A y.n y.c] 24)).alloc (.cells #[.slice z.A z.n z.c] 24)) (pk3 x y z) := hT0
  go_enter Tryd.func7, Tryd.ntmps7
  go_wp2_with fail
  refine (awake_any _ (hT.below hT0.f)).mono ?_; rintro e w1 ⟨rfl, b1⟩
  have hT1 := hT0.next b1
  clear hT0 b1
  have c0 := hT1.ca
  have c1 := hT1.cb
  have c2 := hT1.cc
  go_wp2_with fail
  clear c0 c1 c2
  refine (great_any w1.heap.size 3 (pk3 x y z) false _ (rels_three w1 (pk3 x y z) hT1.ra hT1.rb hT1.rc) (by decide) (Or.inr ⟨rfl, HG.out⟩)).mono ?_; rintro e w2 ⟨rfl, b2⟩
  have hT2 := hT1.next (((Below.refl _ _).alloc (Nat.le_refl _) _).trans (b2.mono (by simp)))
  clear hT1 b2
  have c0 := hT2.ca
  have c1 := hT2.cb
  have c2 := hT2.cc
  go_wp2_with fail
  clear c0 c1 c2
  refine (refValid_yes x.A x.n x.c x.R _ hT2.ra VX.out).mono ?_; rintro e w3 ⟨rfl, b3⟩
  have hT3 := hT2.next b3
  clear hT2 b3
  have c0 := hT3.ca
  have c1 := hT3.cb
  have c2 := hT3.cc
  go_wp2_with fail
  clear c0 c1 c2
  refine (refValid_no y.A y.n y.c y.R _ hT3.rb VY.out).mono ?_; rintro e w4 ⟨rfl, b4⟩
  have hT4 := hT3.next b4
  clear hT3 b4
  go_wp2_with fail
  go_ret
  exact ⟨rfl, hT4.f⟩
set_option maxRecDepth 100000 in
set_option maxHeartbeats 8000000 in
theorem alg_vc (x y z : RelD) (w : World) (hx : Rel w x.A x.n x.R) (hy : Rel w y.A y.n y.R) (hz : Rel w z.A z.n z.R) (hT : Tab w) (hg : ∀ k, k < 3 → ¬ Great (pk3 x y z k).n (pk3 x y z k).R) (vx : VRel x.n x.R) (vy : VRel y.n y.R) (vz : ¬ VRel z.n z.R) :
    Calls Tryd.prog 7 #[.agg #[.slice x.A x.n x.c], .agg #[.slice y.A y.n y.c], .agg #[.slice z.A z.n z.c]] w fun e w' => e = .returned (.bool true) ∧ Below w.heap.size w w' := by
  have HG := Lib.hid hg; clear hg
  have VX := Lib.hid vx; clear vx
  have VY := Lib.hid vy; clear vy
  have VZ := Lib.hid vz; clear vz
  have hT0 : TriB w _ (pk3 x y z) := triB_new w (pk3 x y z) hx hy hz
  clear hx hy hz
  replace hT0 : TriB w (((w.alloc (.cells #[.slice x.A x.n x.c] 24)).alloc (.cells #[.slice y.A y.n y.c] 24)).alloc (.cells #[.slice z.A z.n z.c] 24)) (pk3 x y z) := hT0
  go_enter Tryd.func7, Tryd.ntmps7
  go_wp2_with fail
  refine (awake_any _ (hT.below hT0.f)).mono ?_; rintro e w1 ⟨rfl, b1⟩
  have hT1 := hT0.next b1
  clear hT0 b1
  have c0 := hT1.ca
  have c1 := hT1.cb
  have c2 := hT1.cc
  go_wp2_with fail
  clear c0 c1 c2
  refine (great_any w1.heap.size 3 (pk3 x y z) false _ (rels_three w1 (pk3 x y z) hT1.ra hT1.rb hT1.rc) (by decide) (Or.inr ⟨rfl, HG.out⟩)).mono ?_; rintro e w2 ⟨rfl, b2⟩
  have hT2 := hT1.next (((Below.refl _ _).alloc (Nat.le_refl _) _).trans (b2.mono (by simp)))
  clear hT1 b2
  have c0 := hT2.ca
  have c1 := hT2.cb
  have c2 := hT2.cc
  go_wp2_with fail
  clear c0 c1 c2
  refine (refValid_yes x.A x.n x.c x.R _ hT2.ra VX.out).mono ?_; rintro e w3 ⟨rfl, b3⟩
  have hT3 := hT2.next b3
  clear hT2 b3
  have c0 := hT3.ca
  have c1 := hT3.cb
  have c2 := hT3.cc
  go_wp2_with fail
  clear c0 c1 c2
  refine (refValid_yes y.A y.n y.c y.R _ hT3.rb VY.out).mono ?_; rintro e w4 ⟨rfl, b4⟩
  have hT4 := hT3.next b4
  clear hT3 b4
  have c0 := hT4.ca
  have c1 := hT4.cb
  have c2 := hT4.cc
  go_wp2_with fail
  clear c0 c1 c2
  refine (refValid_no z.A z.n z.c z.R _ hT4.rc VZ.out).mono ?_; rintro e w5 ⟨rfl, b5⟩
  have hT5 := hT4.next b5
  clear hT4 b5
  go_wp2_with fail
  go_ret
  exact ⟨rfl, hT5.f⟩
set_option maxRecDepth 100000 in
set_option maxHeartbeats 8000000 in
theorem alg_nab (x y z : RelD) (w : World) (hx : Rel w x.A x.n x.R) (hy : Rel w y.A y.n y.R) (hz : Rel w z.A z.n z.R) (hT : Tab w) (hg : ∀ k, k < 3 → ¬ Great (pk3 x y z k).n (pk3 x y z k).R) (vx : VRel x.n x.R) (vy : VRel y.n y.R) (vz : VRel z.n z.R) (hn : x.n ≠ y.n) :
    Calls Tryd.prog 7 #[.agg #[.slice x.A x.n x.c], .agg #[.slice y.A y.n y.c], .agg #[.slice z.A z.n z.c]] w fun e w' => e = .returned (.bool true) ∧ Below w.heap.size w w' := by
  have HG := Lib.hid hg; clear hg
  have VX := Lib.hid vx; clear vx
  have VY := Lib.hid vy; clear vy
  have VZ := Lib.hid vz; clear vz
  have hT0 : TriB w _ (pk3 x y z) := triB_new w (pk3 x y z) hx hy hz
  clear hx hy hz
  replace hT0 : TriB w (((w.alloc (.cells #[.slice x.A x.n x.c] 24)).alloc (.cells #[.slice y.A y.n y.c] 24)).alloc (.cells #[.slice z.A z.n z.c] 24)) (pk3 x y z) := hT0
  go_enter Tryd.func7, Tryd.ntmps7
  go_wp2_with fail
  refine (awake_any _ (hT.below hT0.f)).mono ?_; rintro e w1 ⟨rfl, b1⟩
  have hT1 := hT0.next b1
  clear hT0 b1
  have c0 := hT1.ca
  have c1 := hT1.cb
  have c2 := hT1.cc
  go_wp2_with fail
  clear c0 c1 c2
  have hq : ((x.n : Int) == (y.n : Int)) = false := beq_false_of_ne (by omega)
  have hq2 : ((x.n : Int) != (y.n : Int)) = true := by simp only [bne, hq]; rfl
  have HN := Lib.hid hn; clear hn
  refine (great_any w1.heap.size 3 (pk3 x y z) false _ (rels_three w1 (pk3 x y z) hT1.ra hT1.rb hT1.rc) (by decide) (Or.inr ⟨rfl, HG.out⟩)).mono ?_; rintro e w2 ⟨rfl, b2⟩
  have hT2 := hT1.next (((Below.refl _ _).alloc (Nat.le_refl _) _).trans (b2.mono (by simp)))
  clear hT1 b2
  have c0 := hT2.ca
  have c1 := hT2.cb
  have c2 := hT2.cc
  go_wp2_with fail
  clear c0 c1 c2
  refine (refValid_yes x.A x.n x.c x.R _ hT2.ra VX.out).mono ?_; rintro e w3 ⟨rfl, b3⟩
  have hT3 := hT2.next b3
  clear hT2 b3
  have c0 := hT3.ca
  have c1 := hT3.cb
  have c2 := hT3.cc
  go_wp2_with fail
  clear c0 c1 c2
  refine (refValid_yes y.A y.n y.c y.R _ hT3.rb VY.out).mono ?_; rintro e w4 ⟨rfl, b4⟩
  have hT4 := hT3.next b4
  clear hT3 b4
  have c0 := hT4.ca
  have c1 := hT4.cb
  have c2 := hT4.cc
  go_wp2_with fail
  clear c0 c1 c2
  refine (refValid_yes z.A z.n z.c z.R _ hT4.rc VZ.out).mono ?_; rintro e w5 ⟨rfl, b5⟩
  have hT5 := hT4.next b5
  clear hT4 b5
  have c0 := hT5.ca
  have c1 := hT5.cb
  have c2 := hT5.cc
  go_wp2_with fail
  go_ret
  exact ⟨rfl, hT5.f⟩
set_option maxRecDepth 100000 in
set_option maxHeartbeats 8000000 in
theorem alg_nac (A B : Option Addr) (n ca cb : Nat) (R S : Nat → RowD) (z : RelD) (w : World) (hx : Rel w A n R) (hy : Rel w B n S) (hz : Rel w z.A z.n z.R) (hT : Tab w) (hg : ∀ k, k < 3 → ¬ Great (pk3 ⟨A, n, ca, R⟩ ⟨B, n, cb, S⟩ z k).n (pk3 ⟨A, n, ca, R⟩ ⟨B, n, cb, S⟩ z k).R) (vx : VRel n R) (vy : VRel n S) (vz : VRel z.n z.R) (hm : n ≠ z.n) :
    Calls Tryd.prog 7 #[.agg #[.slice A n ca], .agg #[.slice B n cb], .agg #[.slice z.A z.n z.c]] w fun e w' => e = .returned (.bool true) ∧ Below w.heap.size w w' := by
  have HG := Lib.hid hg; clear hg
  have VX := Lib.hid vx; clear vx
  have VY := Lib.hid vy; clear vy
  have VZ := Lib.hid vz; clear vz
  have hT0 : TriB w _ (pk3 ⟨A, n, ca, R⟩ ⟨B, n, cb, S⟩ z) := triB_new w (pk3 ⟨A, n, ca, R⟩ ⟨B, n, cb, S⟩ z) hx hy hz
  clear hx hy hz
  replace hT0 : TriB w (((w.alloc (.cells #[.slice A n ca] 24)).alloc (.cells #[.slice B n cb] 24)).alloc (.cells #[.slice z.A z.n z.c] 24)) (pk3 ⟨A, n, ca, R⟩ ⟨B, n, cb, S⟩ z) := hT0
  go_enter Tryd.func7, Tryd.ntmps7
  go_wp2_with fail
  refine (awake_any _ (hT.below hT0.f)).mono ?_; rintro e w1 ⟨rfl, b1⟩
  have hT1 := hT0.next b1
  clear hT0 b1
  have c0 := hT1.ca
  have c1 := hT1.cb
  have c2 := hT1.cc
  go_wp2_with fail
  clear c0 c1 c2
  have hq : ((n : Int) != (n : Int)) = false := by simp
  have hq1 : ((n : Int) == (z.n : Int)) = false := beq_false_of_ne (by omega)
  have hq2 : ((n : Int) != (z.n : Int)) = true := by simp only [bne, hq1]; rfl
  have HM := Lib.hid hm; clear hm
  refine (great_any w1.heap.size 3 (pk3 ⟨A, n, ca, R⟩ ⟨B, n, cb, S⟩ z) false _ (rels_three w1 (pk3 ⟨A, n, ca, R⟩ ⟨B, n, cb, S⟩ z) hT1.ra hT1.rb hT1.rc) (by decide) (Or.inr ⟨rfl, HG.out⟩)).mono ?_; rintro e w2 ⟨rfl, b2⟩
  have hT2 := hT1.next (((Below.refl _ _).alloc (Nat.le_refl _) _).trans (b2.mono (by simp)))
  clear hT1 b2
  have c0 := hT2.ca
  have c1 := hT2.cb
  have c2 := hT2.cc
  go_wp2_with fail
  clear c0 c1 c2
  refine (refValid_yes A n ca R _ hT2.ra VX.out).mono ?_; rintro e w3 ⟨rfl, b3⟩
  have hT3 := hT2.next b3
  clear hT2 b3
  have c0 := hT3.ca
  have c1 := hT3.cb
  have c2 := hT3.cc
  go_wp2_with fail
  clear c0 c1 c2
  refine (refValid_yes B n cb S _ hT3.rb VY.out).mono ?_; rintro e w4 ⟨rfl, b4⟩
  have hT4 := hT3.next b4
  clear hT3 b4
  have c0 := hT4.ca
  have c1 := hT4.cb
  have c2 := hT4.cc
  go_wp2_with fail
  clear c0 c1 c2
  refine (refValid_yes z.A z.n z.c z.R _ hT4.rc VZ.out).mono ?_; rintro e w5 ⟨rfl, b5⟩
  have hT5 := hT4.next b5
  clear hT4 b5
  have c0 := hT5.ca
  have c1 := hT5.cb
  have c2 := hT5.cc
  go_wp2_with fail
  go_ret
  exact ⟨rfl, hT5.f⟩
set_option maxRecDepth 100000 in
set_option maxHeartbeats 16000000 in
theorem alg_yes (n : Nat) (A B C : Option Addr) (ca cb cc : Nat) (R S Q : Nat → RowD) (w : World) (hx : Rel w A n R) (hy : Rel w B n S) (hz : Rel w C n Q) (hT : Tab w) (hg : ∀ k, k < 3 → ¬ Great (pk3 ⟨A, n, ca, R⟩ ⟨B, n, cb, S⟩ ⟨C, n, cc, Q⟩ k).n (pk3 ⟨A, n, ca, R⟩ ⟨B, n, cb, S⟩ ⟨C, n, cc, Q⟩ k).R) (vx : VRel n R) (vy : VRel n S) (vz : VRel n Q) :
    Calls Tryd.prog 7 #[.agg #[.slice A n ca], .agg #[.slice B n cb], .agg #[.slice C n cc]] w fun e w' => e = .returned (.bool true) ∧ Below w.heap.size w w' := by
  have hn := vx.1
  have hnn : n * n ≤ 512 * 512 := Nat.mul_le_mul hn hn
  have HG := Lib.hid hg; clear hg
  have VX := Lib.hid vx; clear vx
  have VY := Lib.hid vy; clear vy
  have VZ := Lib.hid vz; clear vz
  have hT0 : TriB w _ (pk3 ⟨A, n, ca, R⟩ ⟨B, n, cb, S⟩ ⟨C, n, cc, Q⟩) := triB_new w (pk3 ⟨A, n, ca, R⟩ ⟨B, n, cb, S⟩ ⟨C, n, cc, Q⟩) hx hy hz
  clear hx hy hz
  replace hT0 : TriB w (((w.alloc (.cells #[.slice A n ca] 24)).alloc (.cells #[.slice B n cb] 24)).alloc (.cells #[.slice C n cc] 24)) (pk3 ⟨A, n, ca, R⟩ ⟨B, n, cb, S⟩ ⟨C, n, cc, Q⟩) := hT0
  have hq : ((n : Int) != (n : Int)) = false := by simp
  go_enter Tryd.func7, Tryd.ntmps7
  go_wp2_with fail
  refine (awake_any _ (hT.below hT0.f)).mono ?_; rintro e w1 ⟨rfl, b1⟩
  have hT1 := hT0.next b1
  clear hT0 b1
  have c0 := hT1.ca
  have c1 := hT1.cb
  have c2 := hT1.cc
  go_wp2_with fail
  clear c0 c1 c2
  refine (great_any w1.heap.size 3 (pk3 ⟨A, n, ca, R⟩ ⟨B, n, cb, S⟩ ⟨C, n, cc, Q⟩) false _ (rels_three w1 (pk3 ⟨A, n, ca, R⟩ ⟨B, n, cb, S⟩ ⟨C, n, cc, Q⟩) hT1.ra hT1.rb hT1.rc) (by decide) (Or.inr ⟨rfl, HG.out⟩)).mono ?_; rintro e w2 ⟨rfl, b2⟩
  have hT2 := hT1.next (((Below.refl _ _).alloc (Nat.le_refl _) _).trans (b2.mono (by simp)))
  clear hT1 b2
  have c0 := hT2.ca
  have c1 := hT2.cb
  have c2 := hT2.cc
  go_wp2_with fail
  clear c0 c1 c2
  refine (refValid_yes A n ca R _ hT2.ra VX.out).mono ?_; rintro e w3 ⟨rfl, b3⟩
  have hT3 := hT2.next b3
  clear hT2 b3
  have c0 := hT3.ca
  have c1 := hT3.cb
  have c2 := hT3.cc
  go_wp2_with fail
  clear c0 c1 c2
  refine (refValid_yes B n cb S _ hT3.rb VY.out).mono ?_; rintro e w4 ⟨rfl, b4⟩
  have hT4 := hT3.next b4
  clear hT3 b4
  have c0 := hT4.ca
  have c1 := hT4.cb
  have c2 := hT4.cc
  go_wp2_with fail
  clear c0 c1 c2
  refine (refValid_yes C n cc Q _ hT4.rc VZ.out).mono ?_; rintro e w5 ⟨rfl, b5⟩
  have hT5 := hT4.next b5
  clear hT4 b5
  have Xa : BoxR w5 w.heap.size n A ca R (mat R) := ⟨hT5.a, hT5.ra, VX.out, fun _ _ _ _ => rfl⟩
  have Xb : BoxR w5 (w.heap.size + 1) n B cb S (mat S) := ⟨hT5.b, hT5.rb, VY.out, fun _ _ _ _ => rfl⟩
  have Xc : BoxR w5 (w.heap.size + 2) n C cc Q (mat Q) := ⟨hT5.c, hT5.rc, VZ.out, fun _ _ _ _ => rfl⟩
  have hB := hT5.f
  clear hT5 HG VX VY VZ
  have c0 := Xa.a.c0
  have c1 := Xb.a.c0
  have c2 := Xc.a.c0
  clear c0 c1 c2
  have c0 := Xa.a.c0
  have c1 := Xb.a.c0
  have c2 := Xc.a.c0
  go_wp2_with fail
  clear c0 c1 c2
  refine (compose_box Xa Xb (hT.below hB)).mono ?_; rintro e w6 ⟨A6, d6, R6, rfl, hr, _, hv, hm, hb⟩
  have Xab := boxR_new w6 A6 d6 hr hv hm
  replace Xa := Xa.nxt hb (.cells #[.slice A6 n d6] 24)
  replace Xb := Xb.nxt hb (.cells #[.slice A6 n d6] 24)
  replace Xc := Xc.nxt hb (.cells #[.slice A6 n d6] 24)
  replace hB := below_nxt hB hb (.cells #[.slice A6 n d6] 24)
  clear hr hv hm hb
  have c0 := Xb.a.c0
  have c1 := Xc.a.c0
  go_wp2_with fail
  clear c0 c1
  generalize w6.heap.size = p6 at *
  generalize w6.alloc (.cells #[.slice A6 n d6] 24) = W6 at *
  refine (compose_box Xb Xc (hT.below hB)).mono ?_; rintro e w7 ⟨A7, d7, R7, rfl, hr, _, hv, hm, hb⟩
  have Xbc := boxR_new w7 A7 d7 hr hv hm
  replace Xa := Xa.nxt hb (.cells #[.slice A7 n d7] 24)
  replace Xb := Xb.nxt hb (.cells #[.slice A7 n d7] 24)
  replace Xc := Xc.nxt hb (.cells #[.slice A7 n d7] 24)
  replace Xab := Xab.nxt hb (.cells #[.slice A7 n d7] 24)
  replace hB := below_nxt hB hb (.cells #[.slice A7 n d7] 24)
  clear hr hv hm hb
  have c0 := Xab.a.c0
  have c1 := Xc.a.c0
  go_wp2_with fail
  clear c0 c1
  generalize w7.heap.size = p7 at *
  generalize w7.alloc (.cells #[.slice A7 n d7] 24) = W7 at *
  refine (compose_box Xab Xc (hT.below hB)).mono ?_; rintro e w8 ⟨A8, d8, R8, rfl, hr, _, hv, hm, hb⟩
  have Xl := boxR_new w8 A8 d8 hr hv hm
  replace Xa := Xa.nxt hb (.cells #[.slice A8 n d8] 24)
  replace Xb := Xb.nxt hb (.cells #[.slice A8 n d8] 24)
  replace Xc := Xc.nxt hb (.cells #[.slice A8 n d8] 24)
  replace Xab := Xab.nxt hb (.cells #[.slice A8 n d8] 24)
  replace Xbc := Xbc.nxt hb (.cells #[.slice A8 n d8] 24)
  replace hB := below_nxt hB hb (.cells #[.slice A8 n d8] 24)
  clear hr hv hm hb
  have c0 := Xa.a.c0
  have c1 := Xbc.a.c0
  go_wp2_with fail
  clear c0 c1
  generalize w8.heap.size = p8 at *
  generalize w8.alloc (.cells #[.slice A8 n d8] 24) = W8 at *
  refine (compose_box Xa Xbc (hT.below hB)).mono ?_; rintro e w9 ⟨A9, d9, R9, rfl, hr, _, hv, hm, hb⟩
  have Xr := boxR_new w9 A9 d9 hr hv hm
  replace Xa := Xa.nxt hb (.cells #[.slice A9 n d9] 24)
  replace Xb := Xb.nxt hb (.cells #[.slice A9 n d9] 24)
  replace Xc := Xc.nxt hb (.cells #[.slice A9 n d9] 24)
  replace Xab := Xab.nxt hb (.cells #[.slice A9 n d9] 24)
  replace Xbc := Xbc.nxt hb (.cells #[.slice A9 n d9] 24)
  replace Xl := Xl.nxt hb (.cells #[.slice A9 n d9] 24)
  replace hB := below_nxt hB hb (.cells #[.slice A9 n d9] 24)
  clear hr hv hm hb
  have c0 := Xl.a.c0
  have c1 := Xr.a.c0
  go_wp2_with fail
  clear c0 c1
  generalize w9.heap.size = p9 at *
  generalize w9.alloc (.cells #[.slice A9 n d9] 24) = W9 at *
  refine (same_box Xl Xr (fun i _ j _ => comp_assoc n _ _ _ i j)).mono ?_; rintro e w10 ⟨rfl, hb⟩
  replace Xa := Xa.next hb
  replace Xb := Xb.next hb
  replace Xc := Xc.next hb
  replace Xab := Xab.next hb
  replace hB := below_next hB hb
  clear hb Xl Xr Xbc
  have c0 := Xab.a.c0
  go_wp2_with fail
  clear c0
  refine (inverse_box Xab (hT.below hB)).mono ?_; rintro e w11 ⟨A11, d11, R11, rfl, hr, _, hv, hm, hb⟩
  have Xx := boxR_new w11 A11 d11 hr hv hm
  replace Xa := Xa.nxt hb (.cells #[.slice A11 n d11] 24)
  replace Xb := Xb.nxt hb (.cells #[.slice A11 n d11] 24)
  replace Xc := Xc.nxt hb (.cells #[.slice A11 n d11] 24)
  replace Xab := Xab.nxt hb (.cells #[.slice A11 n d11] 24)
  replace hB := below_nxt hB hb (.cells #[.slice A11 n d11] 24)
  clear hr hv hm hb
  have c0 := Xa.a.c0
  go_wp2_with fail
  clear c0
  generalize w11.heap.size = p11 at *
  generalize w11.alloc (.cells #[.slice A11 n d11] 24) = W11 at *
  refine (inverse_box Xa (hT.below hB)).mono ?_; rintro e w12 ⟨A12, d12, R12, rfl, hr, _, hv, hm, hb⟩
  have Xy := boxR_new w12 A12 d12 hr hv hm
  replace Xa := Xa.nxt hb (.cells #[.slice A12 n d12] 24)
  replace Xb := Xb.nxt hb (.cells #[.slice A12 n d12] 24)
  replace Xc := Xc.nxt hb (.cells #[.slice A12 n d12] 24)
  replace Xab := Xab.nxt hb (.cells #[.slice A12 n d12] 24)
  replace Xx := Xx.nxt hb (.cells #[.slice A12 n d12] 24)
  replace hB := below_nxt hB hb (.cells #[.slice A12 n d12] 24)
  clear hr hv hm hb
  have c0 := Xb.a.c0
  go_wp2_with fail
  clear c0
  generalize w12.heap.size = p12 at *
  generalize w12.alloc (.cells #[.slice A12 n d12] 24) = W12 at *
  refine (inverse_box Xb (hT.below hB)).mono ?_; rintro e w13 ⟨A13, d13, R13, rfl, hr, _, hv, hm, hb⟩
  have Xz := boxR_new w13 A13 d13 hr hv hm
  replace Xa := Xa.nxt hb (.cells #[.slice A13 n d13] 24)
  replace Xb := Xb.nxt hb (.cells #[.slice A13 n d13] 24)
  replace Xc := Xc.nxt hb (.cells #[.slice A13 n d13] 24)
  replace Xab := Xab.nxt hb (.cells #[.slice A13 n d13] 24)
  replace Xx := Xx.nxt hb (.cells #[.slice A13 n d13] 24)
  replace Xy := Xy.nxt hb (.cells #[.slice A13 n d13] 24)
  replace hB := below_nxt hB hb (.cells #[.slice A13 n d13] 24)
  clear hr hv hm hb
  have c0 := Xz.a.c0
  have c1 := Xy.a.c0
  go_wp2_with fail
  clear c0 c1
  generalize w13.heap.size = p13 at *
  generalize w13.alloc (.cells #[.slice A13 n d13] 24) = W13 at *
  refine (compose_box Xz Xy (hT.below hB)).mono ?_; rintro e w14 ⟨A14, d14, R14, rfl, hr, _, hv, hm, hb⟩
  have Xt := boxR_new w14 A14 d14 hr hv hm
  replace Xa := Xa.nxt hb (.cells #[.slice A14 n d14] 24)
  replace Xb := Xb.nxt hb (.cells #[.slice A14 n d14] 24)
  replace Xc := Xc.nxt hb (.cells #[.slice A14 n d14] 24)
  replace Xab := Xab.nxt hb (.cells #[.slice A14 n d14] 24)
  replace Xx := Xx.nxt hb (.cells #[.slice A14 n d14] 24)
  replace Xy := Xy.nxt hb (.cells #[.slice A14 n d14] 24)
  replace Xz := Xz.nxt hb (.cells #[.slice A14 n d14] 24)
  replace hB := below_nxt hB hb (.cells #[.slice A14 n d14] 24)
  clear hr hv hm hb
  have c0 := Xy.a.c0
  go_wp2_with fail
  clear c0
  generalize w14.heap.size = p14 at *
  generalize w14.alloc (.cells #[.slice A14 n d14] 24) = W14 at *
  refine (inverse_box Xy (hT.below hB)).mono ?_; rintro e w15 ⟨A15, d15, R15, rfl, hr, _, hv, hm, hb⟩
  have Xk := boxR_new w15 A15 d15 hr hv hm
  replace Xa := Xa.nxt hb (.cells #[.slice A15 n d15] 24)
  replace Xb := Xb.nxt hb (.cells #[.slice A15 n d15] 24)
  replace Xc := Xc.nxt hb (.cells #[.slice A15 n d15] 24)
  replace Xab := Xab.nxt hb (.cells #[.slice A15 n d15] 24)
  replace Xx := Xx.nxt hb (.cells #[.slice A15 n d15] 24)
  replace Xy := Xy.nxt hb (.cells #[.slice A15 n d15] 24)
  replace Xz := Xz.nxt hb (.cells #[.slice A15 n d15] 24)
  replace Xt := Xt.nxt hb (.cells #[.slice A15 n d15] 24)
  replace hB := below_nxt hB hb (.cells #[.slice A15 n d15] 24)
  clear hr hv hm hb
  have c0 := Xa.a.c0
  go_wp2_with fail
  clear c0
  generalize w15.heap.size = p15 at *
  generalize w15.alloc (.cells #[.slice A15 n d15] 24) = W15 at *
  refine (pairs_box Xa (hT.below hB)).mono ?_; rintro e w16 ⟨vP, rfl, hown, hb⟩
  replace Xa := Xa.next hb
  replace Xx := Xx.next hb
  replace Xt := Xt.next hb
  replace Xk := Xk.next hb
  replace hB := below_next hB hb
  clear hb Xb Xc Xab Xy Xz
  have c0 := Xa.a.c0
  go_wp2_with fail
  clear c0
  have hlen := pairsL_len (mat R) n n
  refine (make_list n vP (pairsL (mat R) n n) _ _ hn hown (by omega) (fun p hp => by obtain ⟨h1, h2, _⟩ := mem_pairsL.1 (show (p.1, p.2) ∈ pairsL (mat R) n n from hp); exact ⟨h1, h2⟩)).mono ?_; rintro e w17 ⟨A17, d17, R17, rfl, hr, _, hv, hm, hb⟩
  have Xs := boxR_new w17 A17 d17 hr hv hm
  replace Xa := Xa.nxt hb (.cells #[.slice A17 n d17] 24)
  replace Xx := Xx.nxt hb (.cells #[.slice A17 n d17] 24)
  replace Xt := Xt.nxt hb (.cells #[.slice A17 n d17] 24)
  replace Xk := Xk.nxt hb (.cells #[.slice A17 n d17] 24)
  replace hB := below_nxt hB hb (.cells #[.slice A17 n d17] 24)
  clear hr hv hm hb hown hlen
  have c0 := Xx.a.c0
  have c1 := Xt.a.c0
  go_wp2_with fail
  clear c0 c1
  generalize w17.heap.size = p17 at *
  generalize w17.alloc (.cells #[.slice A17 n d17] 24) = W17 at *
  refine (same_box Xx Xt (fun i _ j _ => comp_inv n _ _ i j)).mono ?_; rintro e w18 ⟨rfl, hb⟩
  replace Xk := Xk.next hb
  replace Xa := Xa.next hb
  replace Xs := Xs.next hb
  replace hB := below_next hB hb
  clear hb Xx Xt
  have c0 := Xk.a.c0
  have c1 := Xa.a.c0
  go_wp2_with fail
  clear c0 c1
  refine (same_box Xk Xa (fun i _ j _ => rfl)).mono ?_; rintro e w19 ⟨rfl, hb⟩
  replace Xa := Xa.next hb
  replace Xs := Xs.next hb
  replace hB := below_next hB hb
  clear hb Xk
  have c0 := Xs.a.c0
  have c1 := Xa.a.c0
  go_wp2_with fail
  clear c0 c1
  refine (same_box Xs Xa (fun i hi j hj => pairs_contains hi hj)).mono ?_; rintro e w20 ⟨rfl, hb⟩
  go_wp2_with fail
  go_ret
  exact ⟨by simp, below_next hB hb⟩
theorem alg_law (x y z : RelD) (w : World) (hx : Rel w x.A x.n x.R) (hy : Rel w y.A y.n y.R) (hz : Rel w z.A z.n z.R) (hT : Tab w) :
    Calls Tryd.prog 7 #[.agg #[.slice x.A x.n x.c], .agg #[.slice y.A y.n y.c], .agg #[.slice z.A z.n z.c]] w fun e w' => e = .returned (.bool true) ∧ Below w.heap.size w w' := by
  by_cases hg : ∃ k, k < 3 ∧ Great (pk3 x y z k).n (pk3 x y z k).R
  · exact alg_big x y z w hx hy hz hT hg
  · have hng : ∀ k, k < 3 → ¬ Great (pk3 x y z k).n (pk3 x y z k).R := fun k hk h => hg ⟨k, hk, h⟩
    by_cases vx : VRel x.n x.R
    · by_cases vy : VRel y.n y.R
      · by_cases vz : VRel z.n z.R
        · by_cases hn : x.n = y.n
          · by_cases hm : x.n = z.n
            · obtain ⟨A, n, ca, R⟩ := x
              obtain ⟨B, n', cb, S⟩ := y
              obtain ⟨C, n'', cc, Q⟩ := z
              obtain rfl : n = n' := hn
              obtain rfl : n = n'' := hm
              exact alg_yes n A B C ca cb cc R S Q w hx hy hz hT hng vx vy vz
            · obtain ⟨A, n, ca, R⟩ := x
              obtain ⟨B, n', cb, S⟩ := y
              obtain rfl : n = n' := hn
              exact alg_nac A B n ca cb R S z w hx hy hz hT hng vx vy vz hm
          · exact alg_nab x y z w hx hy hz hT hng vx vy vz hn
        · exact alg_vc x y z w hx hy hz hT hng vx vy vz
      · exact alg_vb x y z w hx hy hz hT hng vx vy
    · exact alg_va x y z w hx hy hz hT hng vx
end Go.Proofs.YtfjikeejifhnbaaDoor
