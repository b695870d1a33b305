/- The reference's Covered. -/
import Derived.Test.YtakjdihhbndcnaaDoorPRfV
namespace Go.Proofs.YtakjdihhbndcnaaDoor
open Go.RowKit Go.Sort
/- what the reference asks of a pair -/
def covB (n : Nat) (T : Nat → Nat → Bool) (i j : Nat) : Bool := T i j && !comp n T T i j
theorem covB_red {n : Nat} {R : Nat → RowD} (h : POrd n R) {i j : Nat} (hi : i < n) (hj : j < n) : covB n (mat R) i j = red n (mat R) i j := by
  unfold covB red
  rw [comp_congr (fun _ _ _ _ => rfl) (fun a ha b hb => (pord_clo h.2 ha hb).symm) i hi j hj]
set_option maxHeartbeats 4000000 in
theorem covd_any (A : Option Addr) (n c i j : Nat) (R : Nat → RowD) (v : Bool) (w : World) (h : Rel w A n R) (hv : VRel n R) (hi : i < n) (hj : j < n) (hvv : covB n (mat R) i j = v) :
    Calls Tryd.prog 58 #[.agg #[.slice A n c], .int .i64 i, .int .i64 j] w fun e w' => e = .returned (.bool v) ∧ Below w.heap.size w w' := by
  have HH := Lib.hid h
  have HV := Lib.hid hv
  have HVV := Lib.hid hvv
  have hn := hv.1
  have b0 : Below w.heap.size w (w.alloc (.cells #[.slice A n c] 24)) := (Below.refl _ _).alloc (Nat.le_refl _) _
  have r0 := relAt_new w A n c
  have c0 := r0.c0
  clear h hv hvv
  go_enter Tryd.func58, Tryd.ntmps58
  go_upto_region 1 with fail
  generalize w.alloc (.cells #[.slice A n c] 24) = W at *
  have HL := Lib.hid (rless_any A n c i j R W (HH.out.below b0) HV.out hi hj)
  obtain ⟨va, hva⟩ : ∃ v, mat R i j = v := ⟨_, rfl⟩
  rw [hva] at HL
  have HVA := Lib.hid hva
  clear hva
  go_wp2_with fail
  refine HL.out.mono ?_; rintro e w2 ⟨rfl, b2⟩
  have r2 := r0.below b2
  have B2 := below_next b0 b2
  clear r0 b0 b2 c0 HL
  cases va with
  | false =>
    have hv0 : v = false := by
      rw [← HVV.out]; unfold covB; rw [HVA.out]; rfl
    subst hv0
    go_wp2_with fail
    go_ret
    exact ⟨rfl, B2⟩
  | true =>
    go_wp2_with fail
    go_loopw [7] (fun k wr => ∃ K : Nat, K ≤ n ∧ k = .int .i64 K ∧ Hid (∀ x, x < K → (mat R i x && mat R x j) = false) ∧ RelAt wr w.heap.size A n c ∧ Below w.heap.size w wr) (fun k _ => n - (intOf k).toNat)
    case atStart => exact ⟨0, Nat.zero_le _, rfl, Lib.hid (fun _ h => absurd h (Nat.not_lt_zero _)), r2, B2⟩
    case round =>
      clear r2 B2
      obtain ⟨K, hK, rfl, hQ, hr, hB⟩ := hrel
      by_cases hlt : K < n
      · have hwrap : IntKind.i64.wrap ((K : Int) + 1) = (K : Int) + 1 := IntWalk.i64_in _ (by omega)
        have HL1 := Lib.hid (rless_any A n c i K R wr (HH.out.below hB) HV.out hi hlt)
        obtain ⟨v1, hv1⟩ : ∃ v, mat R i K = v := ⟨_, rfl⟩
        rw [hv1] at HL1
        have HV1 := Lib.hid hv1
        have c0 := hr.c0
        clear hv1
        cases v1 with
        | false =>
          have hQ2 : Hid (∀ x, x < K + 1 → (mat R i x && mat R x j) = false) := Lib.hid fun x hx => by
            by_cases e : x = K
            · subst e; rw [HV1.out]; rfl
            · exact hQ.out x (by omega)
          go_wp2_with fail
          refine HL1.out.mono ?_; rintro e w3 ⟨rfl, b3⟩
          have hr3 := hr.below b3
          have B3 := below_next hB b3
          clear c0 hr hB b3 HL1 hQ
          go_wp2_with fail
          go_roundw
          case rel => exact ⟨K + 1, hlt, by go_num, hQ2, hr3, B3⟩
          case measure => simp [intOf]; omega
        | true =>
          go_wp2_with fail
          refine HL1.out.mono ?_; rintro e w3 ⟨rfl, b3⟩
          have hr3 := hr.below b3
          have B3 := below_next hB b3
          clear c0 hr hB b3 HL1
          have c3 := hr3.c0
          have HL2 := Lib.hid (rless_any A n c K j R w3 (HH.out.below B3) HV.out hlt hj)
          obtain ⟨v2, hv2⟩ : ∃ v, mat R K j = v := ⟨_, rfl⟩
          rw [hv2] at HL2
          have HV2 := Lib.hid hv2
          clear hv2
          go_wp2_with fail
          refine HL2.out.mono ?_; rintro e w4 ⟨rfl, b4⟩
          have hr4 := hr3.below b4
          have B4 := below_next B3 b4
          clear c3 hr3 B3 b4 HL2
          cases v2 with
          | false =>
            have hQ2 : Hid (∀ x, x < K + 1 → (mat R i x && mat R x j) = false) := Lib.hid fun x hx => by
              by_cases e : x = K
              · subst e; rw [HV2.out]; simp
              · exact hQ.out x (by omega)
            clear hQ
            go_wp2_with fail
            go_roundw
            case rel => exact ⟨K + 1, hlt, by go_num, hQ2, hr4, B4⟩
            case measure => simp [intOf]; omega
          | true =>
            have hv0 : v = false := by
              have h1 : comp n (mat R) (mat R) i j = true := comp_iff.2 ⟨K, hlt, HV1.out, HV2.out⟩
              rw [← HVV.out]; unfold covB; rw [h1]; simp
            subst hv0
            go_wp2_with fail
            go_ret
            exact ⟨rfl, B4⟩
      · obtain rfl : K = n := by omega
        have hv1 : v = true := by
          have h1 : comp K (mat R) (mat R) i j = false := by
            cases hc : comp K (mat R) (mat R) i j with
            | false => rfl
            | true =>
              obtain ⟨x, hx, h2, h3⟩ := comp_iff.1 hc
              have := hQ.out x hx
              rw [h2, h3] at this; cases this
          rw [← HVV.out]; unfold covB; rw [HVA.out, h1]; rfl
        subst hv1
        have c0 := hr.c0
        go_wp2_with fail
        go_ret
        exact ⟨rfl, hB⟩
end Go.Proofs.YtakjdihhbndcnaaDoor
