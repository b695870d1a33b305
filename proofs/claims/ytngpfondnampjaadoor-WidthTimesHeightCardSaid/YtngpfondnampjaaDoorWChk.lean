/- Package width: Check. -/
import Derived.Test.YtngpfondnampjaaDoorWPar
namespace Go.Proofs.YtngpfondnampjaaDoor
open Go.RowKit Go.Sort
def ChkP (n : Nat) (R : Nat → RowD) (N : Int) (l : Nat) (s : Nat → Nat) (B : Nat → LsD) (k : Nat) : Prop := (POrd n R ∧ AntiP n (mat R) N l s) ∧ k = cnt s l ∧ PartP n (mat R) B k
set_option maxRecDepth 100000 in
set_option maxHeartbeats 4000000 in
theorem check_any (A S C : Option Addr) (n c l cs k ck : Nat) (N : Int) (R : Nat → RowD) (s : Nat → Nat) (B : Nat → LsD) (v : Bool) (w : World) (h : Rel w A n R) (hn1 : n ≤ 1000000) (hT : Tab w) (hS : Wds w S l s) (hC : Lss w C k B) (hk : k ≤ 1000) (hm : ∀ i, i < k → (B i).m ≤ 1000) (hvv : v = true ↔ ChkP n R N l s B k) :
    Calls Tryd.prog 14 #[.agg #[.slice A n c], .agg #[.int .i64 N, .slice S l cs], .slice C k ck] w fun e w' => e = .returned (.bool v) ∧ Below w.heap.size w w' := by
  have HH := Lib.hid h
  have HS := Lib.hid hS
  have HC := Lib.hid hC
  have HVV := Lib.hid hvv
  have HM := Lib.hid hm
  have r0 := (relAt_new w A n c).alloc (.cells #[.int .i64 N, .slice S l cs] 28)
  have q0 := setAt_new (w.alloc (.cells #[.slice A n c] 24)) N S l cs
  have hz : (w.alloc (.cells #[.slice A n c] 24)).heap.size = w.heap.size + 1 := by simp
  rw [hz] at q0
  have b0 : Below w.heap.size w ((w.alloc (.cells #[.slice A n c] 24)).alloc (.cells #[.int .i64 N, .slice S l cs] 28)) := ((Below.refl _ _).alloc (Nat.le_refl _) _).alloc (by simp) _
  obtain ⟨va, hva⟩ : ∃ v : Bool, v = true ↔ POrd n R ∧ AntiP n (mat R) N l s := ⟨@decide _ (Classical.propDecidable _), @decide_eq_true_iff _ (Classical.propDecidable _)⟩
  obtain ⟨vp, hvp⟩ : ∃ v : Bool, v = true ↔ PartP n (mat R) B k := ⟨@decide _ (Classical.propDecidable _), @decide_eq_true_iff _ (Classical.propDecidable _)⟩
  have HVA := Lib.hid hva
  have HVP := Lib.hid hvp
  clear h hS hvv hva hvp hz hC hm
  go_enter Tryd.func14, Tryd.ntmps14
  go_upto_region 1 with fail
  generalize (w.alloc (.cells #[.slice A n c] 24)).alloc (.cells #[.int .i64 N, .slice S l cs] 28) = W at *
  have c0 := r0.c0
  have d0 := q0.c0
  have d1 := q0.c1
  go_wp2_with fail
  refine (isanti_any A S n c l cs N R s va W (HH.out.below b0) hn1 (hT.below b0) (HS.out.below b0) HVA.out).mono ?_; rintro e w2 ⟨rfl, b2⟩
  have r2 := r0.below b2
  have q2 := q0.below b2
  have B2 := below_next b0 b2
  clear c0 d0 d1 r0 q0 b2 b0
  cases va with
  | false =>
    obtain rfl : v = false := by
      cases hc : v with
      | false => rfl
      | true => have := HVA.out.2 (HVV.out.1 hc).1; cases this
    go_wp2_with fail
    go_ret
    exact ⟨rfl, B2⟩
  | true =>
    have hP := HVA.out.1 (by first | rfl | exact trivial)
    have HP := Lib.hid hP
    obtain rfl : N = n := hP.2.1
    have hn := hP.1.1.1
    have HCN := Lib.hid (count_yes n S l cs s w2 (HS.out.below B2) hP.2.2.1)
    clear hP
    have d0 := q2.c0
    have d1 := q2.c1
    obtain ⟨cq, hcq⟩ : ∃ q, cnt s l = q := ⟨_, rfl⟩
    rw [hcq] at HCN
    have HCQ := Lib.hid hcq
    clear hcq
    go_wp2_with fail
    refine HCN.out.mono ?_; rintro e w3 ⟨rfl, b3⟩
    have r3 := r2.below b3
    have B3 := below_next B2 b3
    clear d0 d1 r2 q2 b3 B2 HCN
    have c0 := r3.c0
    by_cases he : k = cq
    · have e1 : ((k : Int) == (cq : Int)) = true := by rw [he]; simp
      have HCP := Lib.hid (part_any A C n c k ck R B vp w3 (HH.out.below B3) HP.out.1.1 (HC.out.below B3) hk HM.out HVP.out)
      obtain rfl : v = vp := bool_ext ⟨fun h => HVP.out.2 (HVV.out.1 h).2.2, fun h => HVV.out.2 ⟨HP.out, by rw [HCQ.out]; exact he, HVP.out.1 h⟩⟩
      clear he
      go_wp2_with fail
      refine HCP.out.mono ?_; rintro e w4 ⟨rfl, b4⟩
      go_wp2_with fail
      go_ret
      exact ⟨rfl, below_next B3 b4⟩
    · have e1 : ((k : Int) == (cq : Int)) = false := beq_false_of_ne (by omega)
      obtain rfl : v = false := by
        cases hc : v with
        | false => rfl
        | true => exact absurd ((HVV.out.1 hc).2.1.trans HCQ.out) he
      go_wp2_with fail
      go_ret
      exact ⟨rfl, B3⟩
end Go.Proofs.YtngpfondnampjaaDoor
