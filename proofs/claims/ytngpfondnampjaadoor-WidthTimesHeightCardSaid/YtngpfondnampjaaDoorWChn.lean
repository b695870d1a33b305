/- Package width: chains. -/
import Derived.Test.YtngpfondnampjaaDoorWPrs
namespace Go.Proofs.YtngpfondnampjaaDoor
open Go.RowKit Go.Sort
def ChainP (n : Nat) (T : Nat → Nat → Bool) (z : Nat → Int) (m : Nat) : Prop := ∀ k, k < m → (0 ≤ z k ∧ z k < n) ∧ (0 < k → T (z (k - 1)).toNat (z k).toNat = true)
theorem chain_next {n : Nat} {T : Nat → Nat → Bool} {z : Nat → Int} {K : Nat} (h : ChainP n T z K) (h1 : 0 ≤ z K ∧ z K < n) (h2 : 0 < K → T (z (K - 1)).toNat (z K).toNat = true) : ChainP n T z (K + 1) := fun k hk => by
  by_cases e : k = K
  · subst e; exact ⟨h1, h2⟩
  · exact h k (by omega)
set_option maxRecDepth 100000 in
set_option maxHeartbeats 4000000 in
theorem chainOf_any (A B : Option Addr) (n c m cb : Nat) (R : Nat → RowD) (z : Nat → Int) (v : Bool) (w : World) (h : Rel w A n R) (hv : VRel n R) (hz : Ints w B m z) (hm : m ≤ 1000000) (hvv : v = true ↔ ChainP n (mat R) z m) :
    Calls Tryd.prog 40 #[.agg #[.slice A n c], .slice B m cb] w fun e w' => e = .returned (.bool v) ∧ Below w.heap.size w w' := by
  have HH := Lib.hid h
  have HV := Lib.hid hv
  have HZ := Lib.hid hz
  have HVV := Lib.hid hvv
  have hn := hv.1
  have b0 : Below w.heap.size w (w.alloc (.cells #[.slice A n c] 24)) := (Below.refl _ _).alloc (Nat.le_refl _) _
  have r0 := relAt_new w A n c
  clear h hv hz hvv
  go_enter Tryd.func40, Tryd.ntmps40
  go_upto_region 1 with fail
  generalize w.alloc (.cells #[.slice A n c] 24) = W at *
  go_wp2_with fail
  go_loopw [9] (fun i wr => ∃ K : Nat, K ≤ m ∧ i = .int .i64 K ∧ Hid (ChainP n (mat R) z K) ∧ RelAt wr w.heap.size A n c ∧ Below w.heap.size w wr) (fun i _ => m - (intOf i).toNat)
  case atStart => exact ⟨0, Nat.zero_le _, rfl, Lib.hid (fun k hk => absurd hk (Nat.not_lt_zero _)), r0, b0⟩
  case round =>
    clear r0 b0
    obtain ⟨K, hK, rfl, hQ, hr, hB⟩ := hrel
    by_cases hlt : K < m
    · have hwrap : IntKind.i64.wrap ((K : Int) + 1) = (K : Int) + 1 := IntWalk.i64_in _ (by omega)
      obtain ⟨b, off, rfl, hbl, hcz⟩ := (HZ.out.below hB) (by omega)
      have y0 := hcz K hlt
      have c0 := hr.c0
      by_cases h0 : z K < 0
      · have d1 : decide (z K < 0) = true := decide_eq_true h0
        obtain rfl : v = false := by
          cases hc : v with
          | false => rfl
          | true => have := (HVV.out.1 hc K hlt).1.1; omega
        clear h0 hcz HVV
        go_upto_region 4 with fail
        clear y0
        go_quiet (fail)
        go_wp2_with fail
        go_ret
        exact ⟨rfl, below_drewN hB _⟩
      · have d1 : decide (z K < 0) = false := decide_eq_false h0
        by_cases h1 : (n : Int) ≤ z K
        · have d2 : decide ((n : Int) ≤ z K) = true := decide_eq_true h1
          obtain rfl : v = false := by
            cases hc : v with
            | false => rfl
            | true => have := (HVV.out.1 hc K hlt).1.2; omega
          clear h0 h1 hcz HVV
          go_upto_region 4 with fail
          clear y0
          go_quiet (fail)
          go_wp2_with fail
          go_ret
          exact ⟨rfl, below_drewN hB _⟩
        · have d2 : decide ((n : Int) ≤ z K) = false := decide_eq_false h1
          obtain ⟨x, hx⟩ := Int.eq_ofNat_of_zero_le (show 0 ≤ z K by omega)
          have hxn : x < n := by omega
          have d2n : decide (n ≤ x) = false := decide_eq_false (by omega)
          by_cases hK0 : K = 0
          · have d3 : decide ((0 : Int) < (K : Int)) = false := decide_eq_false (by omega)
            have d3n : decide (0 < K) = false := decide_eq_false (by omega)
            have hQ2 : Hid (ChainP n (mat R) z (K + 1)) := Lib.hid (chain_next hQ.out ⟨by omega, by omega⟩ (fun h => by omega))
            clear h0 h1 hcz hx hK0
            go_upto_region 4 with fail
            clear y0
            go_quiet (fail)
            go_wp2_with fail
            go_roundw
            case rel => exact ⟨K + 1, hlt, by go_num, hQ2, hr, below_drewN hB _⟩
            case measure => simp [intOf]; omega
          · obtain ⟨K1, hK1⟩ : ∃ K1, K - 1 = K1 := ⟨_, rfl⟩
            have hw1 : IntKind.i64.wrap ((K : Int) - 1) = (K1 : Int) := by rw [show (K : Int) - 1 = (K1 : Int) by omega]; exact IntWalk.i64_in _ (by omega)
            have hw2 : IntKind.i64.wrap (K1 : Int) = (K1 : Int) := IntWalk.i64_in _ (by omega)
            have d3 : decide ((0 : Int) < (K : Int)) = true := decide_eq_true (by omega)
            have d3n : decide (0 < K) = true := decide_eq_true (by omega)
            have hK1m : K1 < m := by omega
            have y1 := hcz K1 (by omega)
            obtain ⟨a1, a2⟩ := (hQ.out K1 (by omega)).1
            obtain ⟨y, hy⟩ := Int.eq_ofNat_of_zero_le a1
            have hyn : y < n := by omega
            obtain ⟨t, ht⟩ : ∃ t, mat R y x = t := ⟨_, rfl⟩
            have hT : Hid (t = true ↔ mat R (z (K - 1)).toNat (z K).toNat = true) := Lib.hid (by rw [hK1, hy, hx, Int.toNat_natCast, Int.toNat_natCast, ht])
            have hzr : Hid (0 ≤ z K ∧ z K < n) := Lib.hid ⟨by omega, by omega⟩
            have HK1 := Lib.hid hK1
            have HKp : Hid (0 < K) := Lib.hid (by omega)
            rw [hx] at y0
            rw [hx] at d1 d2
            rw [hy] at y1
            obtain ⟨bA, oA, rfl, hbA, hca⟩ := (HH.out.below hB) (by omega)
            obtain ⟨x0, x1, xw⟩ := hca y hyn
            have hvk := HV.out.2 y hyn
            rw [hvk.1] at x0
            have k0 := cell_regrown c0
            have k1 := cell_regrown y1
            have k2 := cell_regrown x0
            have k3 := cell_regrown x1
            have CA := Lib.hid (fun d os => Calls.regrown_of (has_in n x (R y).A (R y).l (R y).c (R y).f t (grow (redrawn wr d) os) (xw.below (below_regrown wr d os)) hvk.2 hxn ht))
            clear h0 h1 hcz hx hy hca xw hvk x0 x1 y1 ht a1 a2 hK1 hK0
            generalize (R y).A = A1 at *
            generalize (R y).l = l1 at *
            generalize (R y).c = c1 at *
            go_upto_region 4 with fail
            clear y0 c0
            refine wp_region_quiet_below (by kernel_rfl) (by kernel_rfl) ?_
            repeat (first | go_big_quiet_step (first | with_reducible exact CA.out _ _) | quiet_step (first | with_reducible exact CA.out _ _))
            refine wpQuiet_nil ?_
            intro _ hw'
            obtain ⟨⟨dq, osq⟩, hw''⟩ := hw'
            subst hw''
            have bq := below_regrown wr dq osq
            have hr2 := hr.below bq
            have hB2 := below_next hB bq
            clear k0 k1 k2 k3 CA hr hB bq hw1 hw2
            generalize grow (redrawn wr dq) osq = wr at *
            cases t with
            | true =>
              have hQ2 : Hid (ChainP n (mat R) z (K + 1)) := Lib.hid (chain_next hQ.out hzr.out (fun _ => hT.out.1 (by first | rfl | exact trivial)))
              go_wp2_with fail
              go_roundw
              case rel => exact ⟨K + 1, hlt, by go_num, hQ2, hr2, hB2⟩
              case measure => simp [intOf]; omega
            | false =>
              obtain rfl : v = false := by
                cases hc : v with
                | false => rfl
                | true =>
                  have h1 := (HVV.out.1 hc K hlt).2 HKp.out
                  have h2 := hT.out.2 h1
                  cases h2
              go_wp2_with fail
              go_ret
              exact ⟨rfl, hB2⟩
    · obtain rfl : K = m := by omega
      obtain rfl : v = true := HVV.out.2 hQ.out
      go_wp2_with fail
      go_ret
      exact ⟨rfl, hB⟩
theorem ischain_any (A B : Option Addr) (n c m cb : Nat) (R : Nat → RowD) (z : Nat → Int) (v : Bool) (w : World) (h : Rel w A n R) (hn1 : n ≤ 1000000) (hT : Tab w) (hz : Ints w B m z) (hm : m ≤ 1000000) (hvv : v = true ↔ POrd n R ∧ ChainP n (mat R) z m) :
    Calls Tryd.prog 12 #[.agg #[.slice A n c], .slice B m cb] w fun e w' => e = .returned (.bool v) ∧ Below w.heap.size w w' := by
  have HH := Lib.hid h
  have HZ := Lib.hid hz
  have b0 : Below w.heap.size w (w.alloc (.cells #[.slice A n c] 24)) := (Below.refl _ _).alloc (Nat.le_refl _) _
  have r0 := relAt_new w A n c
  have c0 := r0.c0
  obtain ⟨vp, hvp⟩ : ∃ v : Bool, v = true ↔ POrd n R := ⟨@decide _ (Classical.propDecidable _), @decide_eq_true_iff _ (Classical.propDecidable _)⟩
  have HVP := Lib.hid hvp
  have HVV := Lib.hid hvv
  clear h hz hvv hvp
  go_enter Tryd.func12, Tryd.ntmps12
  go_upto_region 1 with fail
  generalize w.alloc (.cells #[.slice A n c] 24) = W at *
  go_wp2_with fail
  refine (pvalid_any A n c R vp W (HH.out.below b0) hn1 (hT.below b0) HVP.out).mono ?_; rintro e w2 ⟨rfl, b2⟩
  have r2 := r0.below b2
  have B2 := below_next b0 b2
  clear c0
  cases vp with
  | false =>
    obtain rfl : v = false := by
      cases hc : v with
      | false => rfl
      | true => have := HVP.out.2 (HVV.out.1 hc).1; cases this
    go_wp2_with fail
    go_ret
    exact ⟨rfl, B2⟩
  | true =>
    have hP := HVP.out.1 (by first | rfl | exact trivial)
    have c0 := r2.c0
    have HC := Lib.hid (chainOf_any A B n c m cb R z v w2 (HH.out.below B2) hP.1 (HZ.out.below B2) hm (HVV.out.trans ⟨fun h => h.2, fun h => ⟨hP, h⟩⟩))
    clear hP
    go_wp2_with fail
    refine HC.out.mono ?_; rintro e w3 ⟨rfl, b3⟩
    go_wp2_with fail
    go_ret
    exact ⟨rfl, below_next B2 b3⟩
end Go.Proofs.YtngpfondnampjaaDoor
