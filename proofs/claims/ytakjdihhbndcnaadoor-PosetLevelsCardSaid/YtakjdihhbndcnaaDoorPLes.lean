/- Package poset: Less. -/
import Derived.Test.YtakjdihhbndcnaaDoorPCov
namespace Go.Proofs.YtakjdihhbndcnaaDoor
open Go.RowKit
/- Less -/
set_option maxHeartbeats 4000000 in
theorem less_off (A : Option Addr) (n c : Nat) (R : Nat → RowD) (i j : Int) (w : World) (h : Rel w A n R) (hn : n ≤ 1000000) (hT : Tab w) (hv : ¬ POrd n R ∨ i < 0 ∨ n ≤ i) :
    Calls Tryd.prog 21 #[.agg #[.slice A n c], .int .i64 i, .int .i64 j] w fun e w' => e = .returned (.bool false) ∧ Below w.heap.size w w' := by
  have HH := Lib.hid h; clear h
  have b0 : Below w.heap.size w (w.alloc (.cells #[.slice A n c] 24)) := (Below.refl _ _).alloc (Nat.le_refl _) _
  have r0 := relAt_new w A n c
  have c0 := r0.c0
  obtain ⟨v, hvv⟩ : ∃ v : Bool, v = true ↔ POrd n R := ⟨@decide _ (Classical.propDecidable _), @decide_eq_true_iff _ (Classical.propDecidable _)⟩
  go_enter Tryd.func21, Tryd.ntmps21
  go_wp2_with fail
  refine (pvalid_any A n c R v _ (HH.out.below b0) hn (hT.below b0) hvv).mono ?_; rintro e w2 ⟨rfl, b2⟩
  have r2 := r0.below b2
  have B2 := below_next b0 b2
  clear c0
  have c0 := r2.c0
  cases v with
  | false =>
    clear hv hvv r0 r2 b0 b2 HH hT hn
    go_wp2_with fail
    go_ret
    exact ⟨rfl, B2⟩
  | true =>
    have hv2 : i < 0 ∨ (n : Int) ≤ i := hv.resolve_left (fun h => h (hvv.1 rfl))
    by_cases h0 : i < 0
    · have q0 : decide (0 ≤ i) = false := decide_eq_false (by omega)
      clear hv hv2 hvv h0 r0 r2 b0 b2 HH hT hn
      go_wp2_with fail
      go_ret
      exact ⟨rfl, B2⟩
    · have q0 : decide (0 ≤ i) = true := decide_eq_true (by omega)
      have q1 : decide (i < (n : Int)) = false := decide_eq_false (by omega)
      clear hv hv2 hvv h0 r0 r2 b0 b2 HH hT hn
      go_wp2_with fail
      go_ret
      exact ⟨rfl, B2⟩
set_option maxHeartbeats 4000000 in
theorem less_on (A : Option Addr) (n c i : Nat) (R : Nat → RowD) (j : Int) (v : Bool) (w : World) (h : Rel w A n R) (hT : Tab w) (hv : POrd n R) (hi : i < n) (hvv : v = true ↔ 0 ≤ j ∧ j < n ∧ mat R i j.toNat = true) :
    Calls Tryd.prog 21 #[.agg #[.slice A n c], .int .i64 i, .int .i64 j] w fun e w' => e = .returned (.bool v) ∧ Below w.heap.size w w' := by
  have hn := hv.1.1
  have HH := Lib.hid h; clear h
  have b0 : Below w.heap.size w (w.alloc (.cells #[.slice A n c] 24)) := (Below.refl _ _).alloc (Nat.le_refl _) _
  have r0 := relAt_new w A n c
  have c0 := r0.c0
  have HV := Lib.hid hv
  go_enter Tryd.func21, Tryd.ntmps21
  go_wp2_with fail
  refine (pvalid_any A n c R true _ (HH.out.below b0) (by omega) (hT.below b0) ⟨fun _ => HV.out, fun _ => rfl⟩).mono ?_; rintro e w2 ⟨rfl, b2⟩
  have r2 := r0.below b2
  have B2 := below_next b0 b2
  clear c0
  have c0 := r2.c0
  have q0 : decide (0 ≤ (i : Int)) = true := decide_eq_true (by omega)
  have q1 : decide ((i : Int) < (n : Int)) = true := decide_eq_true (by omega)
  have q1n : decide (i < n) = true := decide_eq_true hi
  obtain ⟨b, off, rfl, hbl, hcz⟩ := (HH.out.below B2) (by omega)
  obtain ⟨x0, x1, xw⟩ := hcz i hi
  have hvk := hv.1.2 i hi
  have HC : Hid (Calls Tryd.prog 50 #[.agg #[.int .i64 (R i).N, .slice (R i).A (R i).l (R i).c], .int .i64 j] w2 fun e w' => e = .returned (.bool v) ∧ Below w2.heap.size w2 w') := by
    show Calls _ _ _ _ _
    rw [hvk.1]
    by_cases hj : 0 ≤ j ∧ j < n
    · obtain ⟨k, rfl⟩ := Int.eq_ofNat_of_zero_le hj.1
      refine has_in n k (R i).A (R i).l (R i).c (R i).f v w2 xw hvk.2 (by omega) ?_
      refine bool_ext ⟨fun hb => hvv.2 ⟨hj.1, hj.2, hb⟩, fun hb => (hvv.1 hb).2.2⟩
    · have : v = false := by
        cases hc : v with
        | false => rfl
        | true => have := hvv.1 hc; exact absurd ⟨this.1, this.2.1⟩ hj
      rw [this]
      exact has_out n j (R i).A (R i).l (R i).c (R i).f w2 xw (fun h => hj h.2)
  generalize (R i).N = N1 at *
  generalize (R i).A = A1 at *
  generalize (R i).l = l1 at *
  generalize (R i).c = c1 at *
  clear hcz xw hvk hvv hv r0 r2 b0 b2 HH HV hT hn
  go_wp2_with fail
  refine HC.out.mono ?_; rintro e w3 ⟨rfl, b3⟩
  go_wp2_with fail
  go_ret
  exact ⟨rfl, below_next B2 b3⟩
end Go.Proofs.YtakjdihhbndcnaaDoor
