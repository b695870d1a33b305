/- The contract of relation.Cycle. -/
import Derived.Test.YtfjikeejifhnbaaDoorRCy
namespace Go.Proofs.YtfjikeejifhnbaaDoor
open Go.RowKit
def CycEnd (w : World) (n : Nat) (T : Nat → Nat → Bool) (e : Ending) (w' : World) : Prop :=
  (∃ s v, firstCyc n T = some s ∧ e = .returned (.tuple #[v, .int .i64 0]) ∧ w'.ownsRow w.heap.size 3 1 v (cycleFrom T n s).length (vals (cycleFrom T n s)) ∧ Below w.heap.size w w') ∨
  (firstCyc n T = none ∧ e = .returned (.tuple #[.slice none 0 0, .int .i64 7]) ∧ Below w.heap.size w w')
theorem cycle_err (A : Option Addr) (n c : Nat) (R : Nat → RowD) (w : World) (h : Rel w A n R) (hn : n ≤ 1000000) (hv : ¬ VRel n R) :
    Calls Tryd.prog 31 #[.agg #[.slice A n c]] w fun e w' => e = .returned (.tuple #[.slice none 0 0, .int .i64 1]) ∧ Below w.heap.size w w' := by
  have HH := Lib.hid h; clear h
  have HV := Lib.hid hv; clear hv
  have b0 : Below w.heap.size w (w.alloc (.cells #[.slice A n c] 24)) := (Below.refl _ _).alloc (Nat.le_refl _) _
  have c0 := (relAt_new w A n c).c0
  go_enter Tryd.func31, Tryd.ntmps31
  go_wp2_with fail
  refine (closure_err A n c R _ (HH.out.below b0) hn HV.out).mono ?_; rintro e w2 ⟨rfl, b2⟩
  go_wp2_with fail
  go_ret2
  exact ⟨rfl, (below_next b0 b2).alloc (below_next b0 b2).size _⟩
set_option maxRecDepth 100000 in
set_option maxHeartbeats 4000000 in
theorem cycle_ok (A : Option Addr) (n c : Nat) (R : Nat → RowD) (w : World) (h : Rel w A n R) (hv : VRel n R) (hT : Tab w) :
    Calls Tryd.prog 31 #[.agg #[.slice A n c]] w (CycEnd w n (mat R)) := by
  have HH := Lib.hid h; clear h
  have hn := hv.1
  have HV := Lib.hid hv; clear hv
  have b0 : Below w.heap.size w (w.alloc (.cells #[.slice A n c] 24)) := (Below.refl _ _).alloc (Nat.le_refl _) _
  have r0 := relAt_new w A n c
  have c0 := r0.c0
  go_enter Tryd.func31, Tryd.ntmps31
  go_wp2_with fail
  refine (closure_ok A n c R _ (HH.out.below b0) HV.out).mono ?_; rintro e w2 ⟨A2, c2, R2, rfl, hR2, _, hV2, hM2, b2⟩
  have bB : Below w2.heap.size w2 (w2.alloc (.cells #[.slice A2 n c2] 24)) := (Below.refl _ _).alloc (Nat.le_refl _) _
  have r2 := (r0.below b2).below bB
  have B2 := below_next (below_next b0 b2) bB
  have HR2 := Lib.hid (hR2.below bB)
  have HV2 := Lib.hid hV2
  have HM2 := Lib.hid hM2
  clear b0 r0 c0 b2 bB hR2 hV2 hM2
  go_wp2_with fail
  generalize w2.alloc (.cells #[.slice A2 n c2] 24) = W at *
  have hno : Hid (∀ k, k < 0 → clo n (mat R) k k = false) := fun k hk => absurd hk (Nat.not_lt_zero _)
  go_loopw [6, 7, 19] (fun _ _ i wr => ∃ K : Nat, K ≤ n ∧ i = .int .i64 K ∧ Hid (∀ k, k < K → clo n (mat R) k k = false) ∧ Below W.heap.size W wr) (fun _ _ i _ => n - (intOf i).toNat)
  case atStart => exact ⟨0, by omega, rfl, hno, Below.refl _ _⟩
  case round =>
    clear hno
    obtain ⟨K, hK, rfl, hno, hB⟩ := hrel
    by_cases hlt : K < n
    · obtain ⟨b, off, rfl, hbl, hcz⟩ := (HR2.out.below hB) (by omega)
      obtain ⟨x0, x1, x2⟩ := hcz K hlt
      have v1 := HV2.out.2 K hlt
      have t1 : bt (R2 K).f K = clo n (mat R) K K := HM2.out K hlt K hlt
      clear hcz
      generalize R2 K = r1 at *
      obtain ⟨N1, A1, l1, c1, f1⟩ := r1
      obtain ⟨e1, u1⟩ := v1
      replace e1 : N1 = n := e1
      subst e1
      have U1 : Hid (Vld n l1 f1) := u1
      have bA : Below wr.heap.size wr (wr.alloc (.cells #[.int .i64 n, .slice A1 l1 c1] 63)) := (Below.refl _ _).alloc (Nat.le_refl _) _
      have W1 : Hid (Wds (wr.alloc (.cells #[.int .i64 n, .slice A1 l1 c1] 63)) A1 l1 f1) := Wds.below x2 bA
      have sA := setAt_new wr n A1 l1 c1
      have BA := below_next hB bA
      replace t1 : bt f1 K = clo n (mat R) K K := t1
      replace x0 : wr.cell? ⟨b, off + K * 2, none⟩ = some (.int .i64 n) := x0
      replace x1 : wr.cell? ⟨b, off + K * 2 + 1, none⟩ = some (.slice A1 l1 c1) := x1
      have d0 := sA.c0
      have d1 := sA.c1
      clear u1 x2 sA
      cases hcl : clo n (mat R) K K
      · rw [hcl] at t1
        have T1 := Lib.hid t1
        have HC := Lib.hid hcl
        clear t1 hcl
        go_wp2_with fail
        refine (has_in n K A1 l1 c1 f1 false _ W1.out U1.out hlt T1.out).mono ?_; rintro e w4 ⟨rfl, b4⟩
        have hno2 : Hid (∀ k, k < K + 1 → clo n (mat R) k k = false) := fun k hk => by
          by_cases e : k = K
          · subst e; exact HC.out
          · exact hno.out k (by omega)
        go_wp2_with fail
        go_roundw
        case rel => exact ⟨K + 1, by omega, by go_num, hno2, below_next BA b4⟩
        case measure => simp [intOf]; omega
      · rw [hcl] at t1
        have T1 := Lib.hid t1
        have HC := Lib.hid hcl
        clear t1 hcl
        have hdp := dist_pos hlt hlt HC.out
        have hfc : Hid (firstCyc n (mat R) = some K) := firstCyc_some.2 ⟨hlt, HC.out, hno.out⟩
        have hcf := fun w' (h1 : Rel w' A n R) (h2 : Tab w') => cycleFrom_any A n c K R w' h1 HV.out hlt hdp h2
        have HCF := Lib.hid hcf
        clear hcf hdp
        go_wp2_with fail
        refine (has_in n K A1 l1 c1 f1 true _ W1.out U1.out hlt T1.out).mono ?_; rintro e w4 ⟨rfl, b4⟩
        have B4 := below_next B2 (below_next BA b4)
        have r4 := r2.below (below_next BA b4)
        clear x0 x1 d0 d1
        have c0 := r4.c0
        go_wp2_with fail
        refine (HCF.out _ (HH.out.below B4) (hT.below B4)).mono ?_; rintro e w5 ⟨v, rfl, hown, b5⟩
        go_wp2_with fail
        go_ret2
        exact Or.inl ⟨K, v, hfc.out, rfl, own_mono hown B4.size, below_next B4 b5⟩
    · obtain rfl : K = n := by omega
      have hfc : Hid (firstCyc K (mat R) = none) := firstCyc_none.2 hno.out
      go_wp2_with fail
      go_ret2
      exact Or.inr ⟨hfc.out, rfl, below_next B2 hB⟩
end Go.Proofs.YtfjikeejifhnbaaDoor
