/- The reference's Less, Formed, Valid. -/
import Derived.Test.YtakjdihhbndcnaaDoorPCov
namespace Go.Proofs.YtakjdihhbndcnaaDoor
open Go.RowKit Go.Sort
theorem rless_any (A : Option Addr) (n c i j : Nat) (R : Nat → RowD) (w : World) (h : Rel w A n R) (hv : VRel n R) (hi : i < n) (hj : j < n) :
    Calls Tryd.prog 22 #[.agg #[.slice A n c], .int .i64 i, .int .i64 j] w fun e w' => e = .returned (.bool (mat R i j)) ∧ Below w.heap.size w w' := by
  have b0 : Below w.heap.size w (w.alloc (.cells #[.slice A n c] 24)) := (Below.refl _ _).alloc (Nat.le_refl _) _
  have c0 := (relAt_new w A n c).c0
  obtain ⟨b, off, rfl, hbl, hcz⟩ := (h.below b0) (by omega)
  obtain ⟨x0, x1, xw⟩ := hcz i hi
  have hn := hv.1
  have hl : (R i).l = (n + 63) / 64 := hv.l hi
  obtain ⟨b2, o2, hA2, hb2, hc2⟩ := xw.2 (by omega)
  have y0 := hc2 (j / 64) (by omega)
  have hx64 := xw.1 (j / 64) (by omega)
  have hm : Hid (mat R i j = ((R i).f (j / 64)).testBit (j % 64)) := Lib.hid rfl
  rw [hA2] at x1
  have hj2 : j / 64 < (R i).l := by omega
  generalize (R i).f (j / 64) = x at *
  generalize (R i).l = l1 at *
  generalize (R i).c = c1 at *
  clear hcz xw hc2 x0 hA2 hl hv h
  go_enter Tryd.func22, Tryd.ntmps22
  go_wp2
  go_ret
  refine ⟨?_, b0⟩
  rw [hm.out]
  exact ret_bool (and_one_test x (j % 64) hx64)
set_option maxHeartbeats 4000000 in
theorem rform_any (A : Option Addr) (n c : Nat) (R : Nat → RowD) (v : Bool) (w : World) (h : Rel w A n R) (hn : n ≤ 1000000) (hvv : v = true ↔ VRel n R) :
    Calls Tryd.prog 16 #[.agg #[.slice A n c]] w fun e w' => e = .returned (.bool v) ∧ Below w.heap.size w w' := by
  have HH := Lib.hid h
  have HV := Lib.hid hvv
  have b0 : Below w.heap.size w (w.alloc (.cells #[.slice A n c] 24)) := (Below.refl _ _).alloc (Nat.le_refl _) _
  have r0 := relAt_new w A n c
  have c0 := r0.c0
  clear h hvv
  by_cases h5 : 512 < n
  · have d1 : decide (512 < (n : Int)) = true := decide_eq_true (by omega)
    have hv0 : v = false := by
      cases hc : v with
      | false => rfl
      | true => have := (HV.out.1 hc).1; omega
    subst hv0
    clear h5
    go_enter Tryd.func16, Tryd.ntmps16
    go_wp2_with fail
    go_ret
    exact ⟨rfl, b0⟩
  · have d1 : decide (512 < (n : Int)) = false := decide_eq_false (by omega)
    go_enter Tryd.func16, Tryd.ntmps16
    go_upto_region 1 with fail
    generalize w.alloc (.cells #[.slice A n c] 24) = W at *
    go_wp2_with fail
    clear c0 d1
    go_loopw [4] (fun i wr => ∃ K : Nat, K ≤ n ∧ i = .int .i64 K ∧ Hid (∀ k, k < K → VRow n (R k)) ∧ RelAt wr w.heap.size A n c ∧ Below w.heap.size w wr) (fun i _ => n - (intOf i).toNat)
    case atStart => exact ⟨0, Nat.zero_le _, rfl, Lib.hid (fun _ h => absurd h (Nat.not_lt_zero _)), r0, b0⟩
    case round =>
      clear r0 b0
      obtain ⟨K, hK, rfl, hQ, hr, hB⟩ := hrel
      by_cases hlt : K < n
      · have hwrap : IntKind.i64.wrap ((K : Int) + 1) = (K : Int) + 1 := IntWalk.i64_in _ (by omega)
        obtain ⟨b, off, rfl, hbl, hcz⟩ := (HH.out.below hB) (by omega)
        obtain ⟨x0, x1, xw⟩ := hcz K hlt
        obtain ⟨r, hrr⟩ : ∃ r, r = R K := ⟨_, rfl⟩
        rw [← hrr] at x0 x1 xw
        have HRR := Lib.hid hrr
        obtain ⟨N1, A1, l1, c1, f1⟩ := r
        replace x0 : wr.cell? ⟨b, off + K * 2, none⟩ = some (.int .i64 N1) := x0
        replace x1 : wr.cell? ⟨b, off + K * 2 + 1, none⟩ = some (.slice A1 l1 c1) := x1
        replace xw : Wds wr A1 l1 f1 := xw
        have c0 := hr.c0
        clear hcz hrr hbl
        by_cases hN : N1 = n
        · subst hN
          have q1 : ((n : Int) != (n : Int)) = false := by simp
          by_cases hvd : Vld (n : Int) l1 f1
          · have HC := Lib.hid (refValid_yes n A1 l1 c1 f1 wr xw hvd)
            have hQ2 : Hid (∀ k, k < K + 1 → VRow n (R k)) := Lib.hid fun k hk => by
              by_cases e : k = K
              · subst e; rw [← HRR.out]; exact ⟨rfl, hvd⟩
              · exact hQ.out k (by omega)
            clear xw hvd hQ
            go_wp2_with fail
            refine HC.out.mono ?_; rintro e w2 ⟨rfl, b2⟩
            have hr2 := hr.below b2
            have B2 := below_next hB b2
            clear c0 x0 x1 hr hB b2 HC
            go_wp2_with fail
            go_roundw
            case rel => exact ⟨K + 1, hlt, by go_num, hQ2, hr2, B2⟩
            case measure => simp [intOf]; omega
          · have HC := Lib.hid (refValid_no n A1 l1 c1 f1 wr xw hvd)
            have hv0 : v = false := by
              cases hc : v with
              | false => rfl
              | true =>
                have := ((HV.out.1 hc).2 K hlt).2
                rw [← HRR.out] at this
                exact absurd this hvd
            subst hv0
            clear xw hvd hQ
            go_wp2_with fail
            refine HC.out.mono ?_; rintro e w2 ⟨rfl, b2⟩
            go_wp2_with fail
            go_ret
            exact ⟨rfl, below_next hB b2⟩
        · have q1 : (N1 != (n : Int)) = true := bne_iff_ne.2 hN
          have hv0 : v = false := by
            cases hc : v with
            | false => rfl
            | true =>
              have := ((HV.out.1 hc).2 K hlt).1
              rw [← HRR.out] at this
              exact absurd this hN
          subst hv0
          clear xw hN hQ
          go_wp2_with fail
          go_ret
          exact ⟨rfl, hB⟩
      · obtain rfl : K = n := by omega
        have hv1 : v = true := HV.out.2 ⟨by omega, hQ.out⟩
        subst hv1
        go_wp2_with fail
        go_ret
        exact ⟨rfl, hB⟩
set_option maxRecDepth 100000 in
set_option maxHeartbeats 8000000 in
theorem rpvalid_any (A : Option Addr) (n c : Nat) (R : Nat → RowD) (v : Bool) (w : World) (h : Rel w A n R) (hn : n ≤ 1000000) (hvv : v = true ↔ POrd n R) :
    Calls Tryd.prog 15 #[.agg #[.slice A n c]] w fun e w' => e = .returned (.bool v) ∧ Below w.heap.size w w' := by
  have HH := Lib.hid h
  have HV := Lib.hid hvv
  have b0 : Below w.heap.size w (w.alloc (.cells #[.slice A n c] 24)) := (Below.refl _ _).alloc (Nat.le_refl _) _
  have r0 := relAt_new w A n c
  have c0 := r0.c0
  clear h hvv
  obtain ⟨vf, hvf⟩ : ∃ v : Bool, v = true ↔ VRel n R := ⟨@decide _ (Classical.propDecidable _), @decide_eq_true_iff _ (Classical.propDecidable _)⟩
  have HVF := Lib.hid hvf
  go_enter Tryd.func15, Tryd.ntmps15
  go_upto_region 1 with fail
  generalize w.alloc (.cells #[.slice A n c] 24) = W at *
  have HF := Lib.hid (rform_any A n c R vf W (HH.out.below b0) hn hvf)
  clear hvf
  go_wp2_with fail
  refine HF.out.mono ?_; rintro e w2 ⟨rfl, b2⟩
  have r2 := r0.below b2
  have B2 := below_next b0 b2
  clear r0 b0 b2 c0 HF
  cases vf with
  | false =>
    have hv0 : v = false := by
      cases hc : v with
      | false => rfl
      | true => have := HVF.out.2 (HV.out.1 hc).1; cases this
    subst hv0
    go_wp2_with fail
    go_ret
    exact ⟨rfl, B2⟩
  | true =>
    have hvr := HVF.out.1 rfl
    have hn5 := hvr.1
    have HVR := Lib.hid hvr
    clear hvr HVF
    go_wp2_with fail
    go_loopw [4] (fun i wr => ∃ K : Nat, K ≤ n ∧ i = .int .i64 K ∧ Hid (∀ i, i < K → POk n (mat R) i) ∧ RelAt wr w.heap.size A n c ∧ Below w.heap.size w wr) (fun i _ => n - (intOf i).toNat)
    case atStart => exact ⟨0, Nat.zero_le _, rfl, Lib.hid (fun _ h => absurd h (Nat.not_lt_zero _)), r2, B2⟩
    case round =>
      clear r2 B2
      obtain ⟨K, hK, rfl, hP, hr, hB⟩ := hrel
      by_cases hlt : K < n
      · have hwrap : IntKind.i64.wrap ((K : Int) + 1) = (K : Int) + 1 := IntWalk.i64_in _ (by omega)
        have HL := Lib.hid (rless_any A n c K K R wr (HH.out.below hB) HVR.out hlt hlt)
        obtain ⟨vi, hvi⟩ : ∃ v, mat R K K = v := ⟨_, rfl⟩
        rw [hvi] at HL
        have HVI := Lib.hid hvi
        have c0 := hr.c0
        clear hvi
        go_wp2_with fail
        refine HL.out.mono ?_; rintro e w3 ⟨rfl, b3⟩
        have hr3 := hr.below b3
        have B3 := below_next hB b3
        clear c0 hr hB b3 HL
        cases vi with
        | true =>
          have hv0 : v = false := by
            cases hc : v with
            | false => rfl
            | true => have := ((HV.out.1 hc).2 K hlt).1; rw [HVI.out] at this; cases this
          subst hv0
          go_wp2_with fail
          go_ret
          exact ⟨rfl, B3⟩
        | false =>
          go_wp2_with fail
          go_loopw [5] (fun i wr => ∃ J : Nat, J ≤ n ∧ i = .int .i64 J ∧ Hid (∀ j, j < J → mat R K j = true → ∀ k, k < n → mat R j k = true → mat R K k = true) ∧ RelAt wr w.heap.size A n c ∧ Below w.heap.size w wr) (fun i _ => n - (intOf i).toNat)
          case atStart => exact ⟨0, Nat.zero_le _, rfl, Lib.hid (fun _ h => absurd h (Nat.not_lt_zero _)), hr3, B3⟩
          case round =>
            clear hr3 B3
            obtain ⟨J, hJ, rfl, hQ, hr, hB⟩ := hrel
            by_cases hlt2 : J < n
            · have hwrap2 : IntKind.i64.wrap ((J : Int) + 1) = (J : Int) + 1 := IntWalk.i64_in _ (by omega)
              obtain ⟨b, off, rfl, hbl, hcz⟩ := (HH.out.below hB) (by omega)
              obtain ⟨x0, x1, xw⟩ := hcz K hlt
              obtain ⟨y0, y1, yw⟩ := hcz J hlt2
              have vx := HVR.out.2 K hlt
              have vy := HVR.out.2 J hlt2
              have ly : (R J).l = (R K).l := (HVR.out.l hlt2).trans (HVR.out.l hlt).symm
              rw [vx.1] at x0
              rw [vy.1] at y0
              have vy2 := vy.2
              rw [ly] at y1 yw vy2
              obtain ⟨vs, hvs⟩ : ∃ v : Bool, v = true ↔ Sub (R J).f (R K).f (R K).l := ⟨@decide _ (Classical.propDecidable _), @decide_eq_true_iff _ (Classical.propDecidable _)⟩
              have HVS : Hid (vs = true ↔ ∀ k, k < n → mat R J k = true → mat R K k = true) := hvs.trans (psub vy2)
              obtain ⟨vb, hvb⟩ : ∃ v, mat R K J = v := ⟨_, rfl⟩
              have HVB := Lib.hid hvb
              have k0 := cell_regrown hr.c0
              have k1 := cell_regrown x0
              have k2 := cell_regrown x1
              have k3 := cell_regrown y0
              have k4 := cell_regrown y1
              have CA := Lib.hid (fun dd os => Calls.regrown_of (rless_any (some ⟨b, off, none⟩) n c K J R (grow (redrawn wr dd) os) ((HH.out.below hB).below (below_regrown wr dd os)) HVR.out hlt hlt2))
              have CB := Lib.hid (fun dd os => Calls.regrown_of (refSubset_dec n (R J).A (R K).A (R K).l (R J).c (R K).c (R J).f (R K).f vy2 vx.2 vs hvs (grow (redrawn wr dd) os) (yw.below (below_regrown wr dd os)) (xw.below (below_regrown wr dd os))))
              rw [hvb] at CA
              clear hcz vx vy ly vy2 xw yw hvs hvb x0 x1 y0 y1 hbl
              generalize (R K).A = A1 at *
              generalize (R J).A = A2 at *
              generalize (R K).l = l1 at *
              generalize (R K).c = e1 at *
              generalize (R J).c = e2 at *
              cases vb with
              | false =>
                have hQ2 : Hid (∀ j, j < J + 1 → mat R K j = true → ∀ k, k < n → mat R j k = true → mat R K k = true) := Lib.hid fun j hj hkj => by
                  by_cases e : j = J
                  · subst e; rw [HVB.out] at hkj; cases hkj
                  · exact hQ.out j (by omega) hkj
                clear hQ HVB HVS
                go_upto_region 12 with fail
                refine wp_region_quiet_below (by kernel_rfl) (by kernel_rfl) ?_
                repeat (first | go_big_quiet_step (first | with_reducible exact CA.out _ _ | with_reducible exact CB.out _ _) | quiet_step (first | with_reducible exact CA.out _ _ | with_reducible exact CB.out _ _))
                refine wpQuiet_nil ?_
                intro _ hw'
                obtain ⟨⟨dq, osq⟩, hw''⟩ := hw'
                subst hw''
                clear k0 k1 k2 k3 k4 CA CB
                have B7 := below_next hB (below_regrown wr dq osq)
                have hr7 := hr.below (below_regrown wr dq osq)
                go_wp2_with fail
                go_roundw
                case rel => exact ⟨J + 1, hlt2, by go_num, hQ2, hr7, B7⟩
                case measure => simp [intOf]; omega
              | true =>
                cases vs with
                | false =>
                  have hv0 : v = false := by
                    cases hc : v with
                    | false => rfl
                    | true => have := HVS.out.2 (fun k hk hjk => ((HV.out.1 hc).2 K hlt).2 J hlt2 HVB.out k hk hjk); cases this
                  subst hv0
                  clear hQ HVB HVS
                  go_upto_region 12 with fail
                  refine wp_region_quiet_below (by kernel_rfl) (by kernel_rfl) ?_
                  repeat (first | go_big_quiet_step (first | with_reducible exact CA.out _ _ | with_reducible exact CB.out _ _) | quiet_step (first | with_reducible exact CA.out _ _ | with_reducible exact CB.out _ _))
                  refine wpQuiet_nil ?_
                  intro _ hw'
                  obtain ⟨⟨dq, osq⟩, hw''⟩ := hw'
                  subst hw''
                  clear k0 k1 k2 k3 k4 CA CB
                  have B7 := below_next hB (below_regrown wr dq osq)
                  go_wp2_with fail
                  go_ret
                  exact ⟨rfl, B7⟩
                | true =>
                  have hQ2 : Hid (∀ j, j < J + 1 → mat R K j = true → ∀ k, k < n → mat R j k = true → mat R K k = true) := Lib.hid fun j hj hkj => by
                    by_cases e : j = J
                    · subst e; exact HVS.out.1 rfl
                    · exact hQ.out j (by omega) hkj
                  clear hQ HVB HVS
                  go_upto_region 12 with fail
                  refine wp_region_quiet_below (by kernel_rfl) (by kernel_rfl) ?_
                  repeat (first | go_big_quiet_step (first | with_reducible exact CA.out _ _ | with_reducible exact CB.out _ _) | quiet_step (first | with_reducible exact CA.out _ _ | with_reducible exact CB.out _ _))
                  refine wpQuiet_nil ?_
                  intro _ hw'
                  obtain ⟨⟨dq, osq⟩, hw''⟩ := hw'
                  subst hw''
                  clear k0 k1 k2 k3 k4 CA CB
                  have B7 := below_next hB (below_regrown wr dq osq)
                  have hr7 := hr.below (below_regrown wr dq osq)
                  go_wp2_with fail
                  go_roundw
                  case rel => exact ⟨J + 1, hlt2, by go_num, hQ2, hr7, B7⟩
                  case measure => simp [intOf]; omega
            · obtain rfl : J = n := by omega
              have hP2 : Hid (∀ i, i < K + 1 → POk J (mat R) i) := Lib.hid fun i hi => by
                by_cases e : i = K
                · subst e; exact ⟨HVI.out, hQ.out⟩
                · exact hP.out i (by omega)
              go_wp2_with fail
              go_roundw
              case rel => exact ⟨K + 1, hlt, by go_num, hP2, hr, hB⟩
              case measure => simp [intOf]; omega
      · obtain rfl : K = n := by omega
        have hv1 : v = true := HV.out.2 ⟨HVR.out, hP.out⟩
        subst hv1
        go_wp2_with fail
        go_ret
        exact ⟨rfl, hB⟩
end Go.Proofs.YtakjdihhbndcnaaDoor
