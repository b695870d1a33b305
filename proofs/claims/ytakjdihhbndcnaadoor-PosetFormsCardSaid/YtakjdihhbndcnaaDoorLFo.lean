/- The law PosetForms: the walk. -/
import Derived.Test.YtakjdihhbndcnaaDoorLBk
import Derived.Test.YtakjdihhbndcnaaDoorPRFm
import Derived.Test.YtakjdihhbndcnaaDoorLCv
namespace Go.Proofs.YtakjdihhbndcnaaDoor
open Go.RowKit Go.Sort
set_option maxRecDepth 100000 in
set_option maxHeartbeats 8000000 in
theorem fo_law (A : Option Addr) (n c : Nat) (R : Nat → RowD) (w : World) (ha : Rel w A n R) (hT : Tab w) :
    Calls Tryd.prog 3 #[.agg #[.slice A n c]] w fun e w' => e = .returned (.bool true) ∧ Below w.heap.size w w' := by
  have HR := Lib.hid ha
  clear ha
  have hT0 : Cb w (w.alloc (.cells #[.slice A n c] 24)) A n c := ⟨relAt_new w A n c, (Below.refl _ _).alloc (Nat.le_refl _) _⟩
  go_enter Tryd.func3, Tryd.ntmps3
  go_upto_region 1 with fail
  generalize w.alloc (.cells #[.slice A n c] 24) = W at *
  go_wp2_with fail
  refine (awake_any W (hT.below hT0.f)).mono ?_; rintro e w1 ⟨rfl, b1⟩
  have hT1 := hT0.next b1
  clear hT0 b1
  obtain ⟨v1, hv1⟩ : ∃ v : Bool, v = true ↔ Few n R := ⟨@decide _ (Classical.propDecidable _), @decide_eq_true_iff _ (Classical.propDecidable _)⟩
  have HF1 := Lib.hid (few_any A n c R v1 w1 (HR.out.below hT1.f) hv1)
  have HV1 := Lib.hid hv1
  clear hv1
  have c0 := hT1.a.c0
  go_wp2_with fail
  refine HF1.out.mono ?_; rintro e w2 ⟨rfl, b2⟩
  have hT2 := hT1.next b2
  clear hT1 b2 c0 HF1
  cases v1 with
  | false =>
    go_wp2_with fail
    refine (awake_any w2 (hT.below hT2.f)).mono ?_; rintro e w3 ⟨rfl, b3⟩
    go_wp2_with fail
    go_ret
    exact ⟨rfl, below_next hT2.f b3⟩
  | true =>
    have hn := (HV1.out.1 rfl).1
    obtain ⟨v, hv⟩ : ∃ v : Bool, v = true ↔ POrd n R := ⟨@decide _ (Classical.propDecidable _), @decide_eq_true_iff _ (Classical.propDecidable _)⟩
    obtain ⟨f, hf⟩ : ∃ f : Bool, f = true ↔ VRel n R := ⟨@decide _ (Classical.propDecidable _), @decide_eq_true_iff _ (Classical.propDecidable _)⟩
    have HVV := Lib.hid hv
    have HFF := Lib.hid hf
    have qv : (v != v) = false := by cases v <;> rfl
    have HC := Lib.hid (from_any A n c R w2 (HR.out.below hT2.f) (by omega) (hT.below hT2.f))
    unfold FromEnd at HC
    clear HV1 hv hf
    have c0 := hT2.a.c0
    go_wp2_with fail
    clear c0
    refine HC.out.mono ?_; rintro e w4 (⟨hvr, hacy, hc⟩ | ⟨hvr, hacy, hc⟩ | ⟨hvr, hc⟩)
    · obtain ⟨Ac, cc, Rc, rfl, hRc, _, hVc, hMc, b4⟩ := hc
      have bx := bnew w4 (.cells #[.slice Ac n cc] 24)
      have rc := relAt_new w4 Ac n cc
      have hT4 := (hT2.next b4).next bx
      have HRc := Lib.hid (hRc.below bx)
      have HVc := Lib.hid hVc
      have HMc := Lib.hid hMc
      clear hRc hVc hMc
      have HVR := Lib.hid hvr
      have HAC := Lib.hid hacy
      clear hacy
      clear hvr b4 bx hT2 HC
      go_upto_region 4 with fail
      generalize w4.heap.size = pc at *
      generalize w4.alloc (.cells #[.slice Ac n cc] 24) = w5 at *
      have k0 := cell_regrown hT4.a.c0
      have CA := Lib.hid (fun dd os => Calls.regrown_of (pvalid_any A n c R v (grow (redrawn w5 dd) os) ((HR.out.below hT4.f).below (below_regrown w5 dd os)) (by omega) ((hT.below hT4.f).below (below_regrown w5 dd os)) HVV.out))
      have CB := Lib.hid (fun dd os => Calls.regrown_of (rpvalid_any A n c R v (grow (redrawn w5 dd) os) ((HR.out.below hT4.f).below (below_regrown w5 dd os)) (by omega) HVV.out))
      refine wp_region_quiet_below (by kernel_rfl) (by kernel_rfl) ?_
      repeat (first | go_big_quiet_step (first | with_reducible exact CA.out _ _ | with_reducible exact CB.out _ _) | quiet_step (first | with_reducible exact CA.out _ _ | with_reducible exact CB.out _ _))
      refine wpQuiet_nil ?_
      intro _ hw'
      obtain ⟨⟨dq, osq⟩, hw''⟩ := hw'
      subst hw''
      clear k0 CA CB
      have bq := below_regrown w5 dq osq
      have hT5 := hT4.next bq
      have rc5 := rc.below bq
      have HRc5 := Lib.hid (HRc.out.below bq)
      clear HRc
      clear hT4 rc bq
      generalize grow (redrawn w5 dq) osq = w5 at *
      obtain rfl : f = true := HFF.out.2 HVR.out
      have HFm := Lib.hid (rform_any A n c R true w5 (HR.out.below hT5.f) (by omega) HFF.out)
      have c0 := hT5.a.c0
      go_wp2_with fail
      refine HFm.out.mono ?_; rintro e w6 ⟨rfl, b6⟩
      have hT6 := hT5.next b6
      have rc6 := rc5.below b6
      have HRc6 := Lib.hid (HRc5.out.below b6)
      clear HRc5
      clear c0 hT5 rc5 b6 HFm
      have c0 := hT6.a.c0
      have HG := Lib.hid (rfrom_any A n c R w6 (HR.out.below hT6.f) HVR.out)
      unfold RFromEnd at HG
      go_wp2_with fail
      refine HG.out.mono ?_; rintro e w7 (⟨_, Aw, cw, Rw, rfl, hRw, hVw, hMw, b7⟩ | ⟨hno, _⟩)
      rotate_left
      · exact absurd HAC.out hno
      have bx := bnew w7 (.cells #[.slice Aw n cw] 24)
      have rw7 := relAt_new w7 Aw n cw
      have hT7 := (hT6.next b7).next bx
      have rc7 := (rc6.below b7).below bx
      have HRc7 := Lib.hid ((HRc6.out.below b7).below bx)
      have HRw := Lib.hid (hRw.below bx)
      have HVw := Lib.hid hVw
      have HMw := Lib.hid hMw
      clear hRw hVw hMw b7 bx hT6 rc6 HRc6 HG c0
      go_upto_region 9 with fail
      generalize w7.heap.size = pw at *
      generalize w7.alloc (.cells #[.slice Aw n cw] 24) = w8 at *
      have c1 := rc7.c0
      have c2 := rw7.c0
      have HSm := Lib.hid (psame_yes Ac Aw n cc cw Rc Rw w8 HRc7.out HRw.out HVc.out HVw.out (fun i hi j hj => (HMc.out i hi j hj).trans (HMw.out i hi j hj).symm))
      go_wp2_with fail
      refine HSm.out.mono ?_; rintro e w9 ⟨rfl, b9⟩
      have hT9 := hT7.next b9
      have rc9 := rc7.below b9
      have HPc := Lib.hid (pvalid_any Ac n cc Rc true w9 (HRc7.out.below b9) (by omega) (hT.below hT9.f) ⟨fun _ => ⟨HVc.out, pok_congr HMc.out (clo_ord HAC.out)⟩, fun _ => rfl⟩)
      clear c1 c2 hT7 rc7 rw7 HRc7 HRw HSm b9
      have c1 := rc9.c0
      go_wp2_with fail
      refine HPc.out.mono ?_; rintro e wa ⟨rfl, ba⟩
      go_wp2_with fail
      go_ret
      exact ⟨rfl, below_next hT9.f ba⟩
    · obtain ⟨rfl, b4⟩ := hc
      have bx := bnew w4 (.cells #[.slice none 0 0] 24)
      have rc := relAt_new w4 none 0 0
      have hT4 := (hT2.next b4).next bx
      have HVR := Lib.hid hvr
      have HAC := Lib.hid hacy
      clear hacy
      clear hvr b4 bx hT2 HC
      go_upto_region 4 with fail
      generalize w4.heap.size = pc at *
      generalize w4.alloc (.cells #[.slice none 0 0] 24) = w5 at *
      have k0 := cell_regrown hT4.a.c0
      have CA := Lib.hid (fun dd os => Calls.regrown_of (pvalid_any A n c R v (grow (redrawn w5 dd) os) ((HR.out.below hT4.f).below (below_regrown w5 dd os)) (by omega) ((hT.below hT4.f).below (below_regrown w5 dd os)) HVV.out))
      have CB := Lib.hid (fun dd os => Calls.regrown_of (rpvalid_any A n c R v (grow (redrawn w5 dd) os) ((HR.out.below hT4.f).below (below_regrown w5 dd os)) (by omega) HVV.out))
      refine wp_region_quiet_below (by kernel_rfl) (by kernel_rfl) ?_
      repeat (first | go_big_quiet_step (first | with_reducible exact CA.out _ _ | with_reducible exact CB.out _ _) | quiet_step (first | with_reducible exact CA.out _ _ | with_reducible exact CB.out _ _))
      refine wpQuiet_nil ?_
      intro _ hw'
      obtain ⟨⟨dq, osq⟩, hw''⟩ := hw'
      subst hw''
      clear k0 CA CB
      have bq := below_regrown w5 dq osq
      have hT5 := hT4.next bq
      have rc5 := rc.below bq
      clear hT4 rc bq
      generalize grow (redrawn w5 dq) osq = w5 at *
      obtain rfl : f = true := HFF.out.2 HVR.out
      have HFm := Lib.hid (rform_any A n c R true w5 (HR.out.below hT5.f) (by omega) HFF.out)
      have c0 := hT5.a.c0
      go_wp2_with fail
      refine HFm.out.mono ?_; rintro e w6 ⟨rfl, b6⟩
      have hT6 := hT5.next b6
      have rc6 := rc5.below b6
      clear c0 hT5 rc5 b6 HFm
      have c0 := hT6.a.c0
      have HG := Lib.hid (rfrom_any A n c R w6 (HR.out.below hT6.f) HVR.out)
      unfold RFromEnd at HG
      go_wp2_with fail
      refine HG.out.mono ?_; rintro e w7 (⟨hno, _⟩ | ⟨_, rfl, b7⟩)
      · exact absurd hno HAC.out
      have bx := bnew w7 (.cells #[.slice none 0 0] 24)
      have hT7 := (hT6.next b7).next bx
      have rc7 := (rc6.below b7).below bx
      clear b7 bx hT6 rc6 HG c0
      go_upto_region 9 with fail
      generalize w7.alloc (.cells #[.slice none 0 0] 24) = w8 at *
      have c1 := rc7.c0
      go_wp2_with fail
      refine (pnone_any w8).mono ?_; rintro e w9 ⟨rfl, b9⟩
      go_wp2_with fail
      go_ret
      exact ⟨rfl, below_next hT7.f b9⟩
    · obtain ⟨rfl, b4⟩ := hc
      have bx := bnew w4 (.cells #[.slice none 0 0] 24)
      have rc := relAt_new w4 none 0 0
      have hT4 := (hT2.next b4).next bx
      have HVR := Lib.hid hvr
      clear hvr b4 bx hT2 HC
      go_upto_region 4 with fail
      generalize w4.heap.size = pc at *
      generalize w4.alloc (.cells #[.slice none 0 0] 24) = w5 at *
      have k0 := cell_regrown hT4.a.c0
      have CA := Lib.hid (fun dd os => Calls.regrown_of (pvalid_any A n c R v (grow (redrawn w5 dd) os) ((HR.out.below hT4.f).below (below_regrown w5 dd os)) (by omega) ((hT.below hT4.f).below (below_regrown w5 dd os)) HVV.out))
      have CB := Lib.hid (fun dd os => Calls.regrown_of (rpvalid_any A n c R v (grow (redrawn w5 dd) os) ((HR.out.below hT4.f).below (below_regrown w5 dd os)) (by omega) HVV.out))
      refine wp_region_quiet_below (by kernel_rfl) (by kernel_rfl) ?_
      repeat (first | go_big_quiet_step (first | with_reducible exact CA.out _ _ | with_reducible exact CB.out _ _) | quiet_step (first | with_reducible exact CA.out _ _ | with_reducible exact CB.out _ _))
      refine wpQuiet_nil ?_
      intro _ hw'
      obtain ⟨⟨dq, osq⟩, hw''⟩ := hw'
      subst hw''
      clear k0 CA CB
      have bq := below_regrown w5 dq osq
      have hT5 := hT4.next bq
      have rc5 := rc.below bq
      clear hT4 rc bq
      generalize grow (redrawn w5 dq) osq = w5 at *
      obtain rfl : f = false := by
        cases hff : f with
        | false => rfl
        | true => exact absurd (HFF.out.1 hff) HVR.out
      have HFm := Lib.hid (rform_any A n c R false w5 (HR.out.below hT5.f) (by omega) HFF.out)
      have c0 := hT5.a.c0
      go_wp2_with fail
      refine HFm.out.mono ?_; rintro e w6 ⟨rfl, b6⟩
      have hT6 := hT5.next b6
      have rc6 := rc5.below b6
      clear c0 hT5 rc5 b6 HFm
      have c1 := rc6.c0
      go_wp2_with fail
      refine (pnone_any w6).mono ?_; rintro e w9 ⟨rfl, b9⟩
      go_wp2_with fail
      go_ret
      exact ⟨rfl, below_next hT6.f b9⟩
end Go.Proofs.YtakjdihhbndcnaaDoor
