/- The law PosetCovers: the walk. -/
import Derived.Test.YtakjdihhbndcnaaDoorLBk
import Derived.Test.YtakjdihhbndcnaaDoorPCvs
import Derived.Test.YtakjdihhbndcnaaDoorPLes
import Derived.Deep.RegionHeld3
import Derived.Deep.Cut
import Derived.Deep.CutRange
namespace Go.Proofs.YtakjdihhbndcnaaDoor
open Go.RowKit Go.Sort
/- less, in one contract -/
def LessP (n : Nat) (T : Nat → Nat → Bool) (i j : Int) : Prop := 0 ≤ i ∧ i < n ∧ 0 ≤ j ∧ j < n ∧ T i.toNat j.toNat = true
theorem less_ord (A : Option Addr) (n c : Nat) (R : Nat → RowD) (i j : Int) (v : Bool) (w : World) (h : Rel w A n R) (hP : POrd n R) (hT : Tab w) (hv : v = true ↔ LessP n (mat R) i j) :
    Calls Tryd.prog 21 #[.agg #[.slice A n c], .int .i64 i, .int .i64 j] w fun e w' => e = .returned (.bool v) ∧ Below w.heap.size w w' := by
  by_cases hi : 0 ≤ i ∧ i < n
  · obtain ⟨a, rfl⟩ := Int.eq_ofNat_of_zero_le hi.1
    exact less_on A n c a R j v w h hT hP (by omega) (hv.trans ⟨fun h => ⟨h.2.2.1, h.2.2.2.1, h.2.2.2.2⟩, fun h => ⟨hi.1, hi.2, h.1, h.2.1, h.2.2⟩⟩)
  · have : v = false := by
      cases hc : v with
      | false => rfl
      | true => exact absurd ⟨(hv.1 hc).1, (hv.1 hc).2.1⟩ hi
    rw [this]
    exact less_off A n c R i j w h (by have := hP.1.1; omega) hT (.inr (by omega))
structure Cb (w wr : World) (A : Option Addr) (n c : Nat) : Prop where
  a : RelAt wr w.heap.size A n c
  f : Below w.heap.size w wr
theorem Cb.next {w wr w2 : World} {A : Option Addr} {n c : Nat} (h : Cb w wr A n c) (k : Below wr.heap.size wr w2) : Cb w w2 A n c := ⟨h.a.below k, below_next h.f k⟩
set_option maxRecDepth 100000 in
set_option maxHeartbeats 8000000 in
theorem cv_law (A : Option Addr) (n c : Nat) (R : Nat → RowD) (i j : Int) (w : World) (ha : Rel w A n R) (hT : Tab w) :
    Calls Tryd.prog 4 #[.agg #[.slice A n c], .int .i64 i, .int .i64 j] w fun e w' => e = .returned (.bool true) ∧ Below w.heap.size w w' := by
  have HR := Lib.hid ha
  clear ha
  have hT0 : Cb w (w.alloc (.cells #[.slice A n c] 24)) A n c := ⟨relAt_new w A n c, (Below.refl _ _).alloc (Nat.le_refl _) _⟩
  go_enter Tryd.func4, Tryd.ntmps4
  go_upto_region 1 with fail
  generalize w.alloc (.cells #[.slice A n c] 24) = W at *
  go_wp2_with fail
  refine (awake_any W (hT.below hT0.f)).mono ?_; rintro e w1 ⟨rfl, b1⟩
  have hT1 := hT0.next b1
  clear hT0 b1
  obtain ⟨v1, hv1⟩ : ∃ v : Bool, v = true ↔ Few n R := ⟨@decide _ (Classical.propDecidable _), @decide_eq_true_iff _ (Classical.propDecidable _)⟩
  have HF1 := Lib.hid (few_any A n c R v1 w1 (HR.out.below hT1.f) hv1)
  have HV1 := Lib.hid hv1
  clear hv1
  have c0 := hT1.a.c0
  go_wp2_with fail
  refine HF1.out.mono ?_; rintro e w2 ⟨rfl, b2⟩
  have hT2 := hT1.next b2
  clear hT1 b2 c0 HF1
  cases v1 with
  | false =>
    go_wp2_with fail
    refine (awake_any w2 (hT.below hT2.f)).mono ?_; rintro e w3 ⟨rfl, b3⟩
    go_wp2_with fail
    go_ret
    exact ⟨rfl, below_next hT2.f b3⟩
  | true =>
    have hn := (HV1.out.1 rfl).1
    have HC := Lib.hid (covers_any A n c R w2 (HR.out.below hT2.f) (by omega) (hT.below hT2.f))
    unfold CovEnd at HC
    clear HV1
    have c0 := hT2.a.c0
    go_wp2_with fail
    clear c0
    refine HC.out.mono ?_; rintro e w4 (⟨hP, hc⟩ | ⟨hno, rfl, b4⟩)
    · obtain ⟨Ac, cc, Rc, rfl, hRc, _, hVc, hMc, b4⟩ := hc
      have bx := bnew w4 (.cells #[.slice Ac n cc] 24)
      have rc := relAt_new w4 Ac n cc
      have hT4 := (hT2.next b4).next bx
      have HRc := Lib.hid (hRc.below bx)
      have HVc := Lib.hid hVc
      have HMc := Lib.hid hMc
      have HP := Lib.hid hP
      clear hRc hVc hMc hP b4 bx hT2 HC
      go_upto_region 4 with fail
      generalize w4.heap.size = pc at *
      generalize w4.alloc (.cells #[.slice Ac n cc] 24) = w5 at *
      obtain ⟨v, hv⟩ : ∃ v : Bool, v = true ↔ LessP n (mat R) i j := ⟨@decide _ (Classical.propDecidable _), @decide_eq_true_iff _ (Classical.propDecidable _)⟩
      have HL := Lib.hid (less_ord A n c R i j v w5 (HR.out.below hT4.f) HP.out (hT.below hT4.f) hv)
      have HVV := Lib.hid hv
      clear hv
      have c0 := hT4.a.c0
      go_wp2_with fail
      refine HL.out.mono ?_; rintro e w6 ⟨rfl, b6⟩
      have hT6 := hT4.next b6
      have rc6 := rc.below b6
      have HRc6 := Lib.hid (HRc.out.below b6)
      clear c0 hT4 rc b6 HL HRc
      have c0 := hT6.a.c0
      have HV := Lib.hid (rpvalid_any A n c R true w6 (HR.out.below hT6.f) (by omega) ⟨fun _ => HP.out, fun _ => rfl⟩)
      go_wp2_with fail
      refine HV.out.mono ?_; rintro e w7 ⟨rfl, b7⟩
      have hT7 := hT6.next b7
      have rc7 := rc6.below b7
      have HRc7 := Lib.hid (HRc6.out.below b7)
      clear c0 hT6 rc6 b7 HV HRc6
      have c0 := hT7.a.c0
      go_upto_region 8 with fail
      clear c0
      go_cut [11] from 45 to 66 (fun x wx => x = .bool v ∧ Below w7.heap.size w7 wx)
      case first =>
        clear HRc7 rc7 HMc HVc
        by_cases hi0 : i < 0
        · have d1 : decide ((0 : Int) ≤ i) = false := decide_eq_false (by omega)
          obtain rfl : v = false := by
            cases v with
            | false => rfl
            | true => have := HVV.out.1 rfl; unfold LessP at this; omega
          go_wp2_with fail
          go_meet
          exact ⟨rfl, Below.refl _ _⟩
        · have d1 : decide ((0 : Int) ≤ i) = true := decide_eq_true (by omega)
          by_cases hi1 : (n : Int) ≤ i
          · have d2 : decide (i < (n : Int)) = false := decide_eq_false (by omega)
            obtain rfl : v = false := by
              cases v with
              | false => rfl
              | true => have := HVV.out.1 rfl; unfold LessP at this; omega
            go_wp2_with fail
            go_meet
            exact ⟨rfl, Below.refl _ _⟩
          · have d2 : decide (i < (n : Int)) = true := decide_eq_true (by omega)
            by_cases hj0 : j < 0
            · have d3 : decide ((0 : Int) ≤ j) = false := decide_eq_false (by omega)
              obtain rfl : v = false := by
                cases v with
                | false => rfl
                | true => have := HVV.out.1 rfl; unfold LessP at this; omega
              go_wp2_with fail
              go_meet
              exact ⟨rfl, Below.refl _ _⟩
            · have d3 : decide ((0 : Int) ≤ j) = true := decide_eq_true (by omega)
              by_cases hj1 : (n : Int) ≤ j
              · have d4 : decide (j < (n : Int)) = false := decide_eq_false (by omega)
                obtain rfl : v = false := by
                  cases v with
                  | false => rfl
                  | true => have := HVV.out.1 rfl; unfold LessP at this; omega
                go_wp2_with fail
                go_meet
                exact ⟨rfl, Below.refl _ _⟩
              · obtain ⟨a, rfl⟩ : ∃ a : Nat, i = a := ⟨i.toNat, by omega⟩
                obtain ⟨b, rfl⟩ : ∃ b : Nat, j = b := ⟨j.toNat, by omega⟩
                have d2n : decide (a < n) = true := decide_eq_true (by omega)
                have d4 : decide ((b : Int) < (n : Int)) = true := decide_eq_true (by omega)
                have d4n : decide (b < n) = true := decide_eq_true (by omega)
                have HW := Lib.hid (rless_any A n c a b R w7 (HR.out.below hT7.f) HP.out.1 (by omega) (by omega))
                have hvm : mat R a b = v := bool_ext ⟨fun h => HVV.out.2 ⟨by omega, by omega, by omega, by omega, h⟩, fun h => (HVV.out.1 h).2.2.2.2⟩
                rw [hvm] at HW
                have c0 := hT7.a.c0
                clear hvm HVV
                go_wp2_with fail
                refine HW.out.mono ?_; rintro e w8 ⟨rfl, b8⟩
                go_wp2_with fail
                go_meet
                exact ⟨rfl, b8⟩
      case rest =>
        obtain ⟨rfl, b8⟩ := hcut
        have hT8 := hT7.next b8
        have rc8 := rc7.below b8
        have HRc8 := Lib.hid (HRc7.out.below b8)
        have HRA := Lib.hid (HR.out.below hT8.f)
        have HSM : Hid (∀ a, a < n → ∀ b, b < n → mat Rc a b = covB n (mat R) a b) := Lib.hid fun a ha b hb => ((covB_red HP.out ha hb).trans (HMc.out a ha b hb).symm).symm
        have HB8 := Lib.hid hT8.f
        have HPV : Hid (VRel n R) := Lib.hid HP.out.1
        have HQ := Lib.hid (And.intro hT8.a rc8)
        have qv : (v == v) = true := by cases v <;> rfl
        clear hT7 rc7 HRc7 b8 hT8 rc8 HVV HMc HP HR
        generalize wc = W at *
        go_upto_region 9 with fail
        have hfr : Hid (∀ u, Below W.heap.size W u → Calls Tryd.prog 23 #[.agg #[.slice A n c]] u (RelNew u n (covB n (mat R)))) := fun u hu => rcovers_any A n c R u (HRA.out.below hu) HPV.out
        have hsm : Hid (∀ u A5 c5 R5, Below W.heap.size W u → Rel u A5 n R5 → VRel n R5 → (∀ i, i < n → ∀ j, j < n → mat R5 i j = covB n (mat R) i j) → Calls Tryd.prog 19 #[.agg #[.slice Ac n cc], .agg #[.slice A5 n c5]] u fun e w' => e = .returned (.bool true) ∧ Below u.heap.size u w') := fun u A5 c5 R5 hu h5 hv5 hm5 =>
          psame_yes Ac A5 n cc c5 Rc R5 u (HRc8.out.below hu) h5 HVc.out hv5 (fun a ha b hb => (HSM.out a ha b hb).trans (hm5 a ha b hb).symm)
        have hss : Hid (∀ w', Below W.heap.size W w' → Below W.heap.size W w' ∧ w'.cell? ⟨w.heap.size, 0, none⟩ = some (.slice A n c) ∧ w'.cell? ⟨pc, 0, none⟩ = some (.slice Ac n cc)) := fun w' b => ⟨b, (HQ.out.1.below b).c0, (HQ.out.2.below b).c0⟩
        clear HRA HRc8 HVc HSM HPV HQ
        go_region_held3 (fun w' => Below W.heap.size W w' ∧ w'.cell? ⟨w.heap.size, 0, none⟩ = some (.slice A n c) ∧ w'.cell? ⟨pc, 0, none⟩ = some (.slice Ac n cc))
          (first
            | exact hss.out _ (Below.refl _ _).drew
            | exact hss.out _ bc6
            | exact hss.out _ bc5)
          (first
            | (go_at_call 23; (with_reducible refine (hfr.out _ (And.left (by assumption))).mono ?_); rintro e w5 ⟨A5, c5, R5, rfl, hr5, _, hv5, hm5, b5⟩; have bc5 := below_next (And.left (by assumption)) b5)
            | (go_at_call 19; (with_reducible refine (hsm.out _ _ _ _ bc5 hr5 hv5 hm5).mono ?_); rintro e w6 ⟨rfl, b6⟩; have bc6 := below_next bc5 b6))
        all_goals
          go_wp2_with fail
          go_ret
          exact ⟨rfl, below_next HB8.out bc6⟩
    · have bx := bnew w4 (.cells #[.slice none 0 0] 24)
      have rc := relAt_new w4 none 0 0
      have hT4 := (hT2.next b4).next bx
      have HNO := Lib.hid hno
      clear b4 bx hT2 HC hno
      go_upto_region 4 with fail
      generalize w4.heap.size = pc at *
      generalize w4.alloc (.cells #[.slice none 0 0] 24) = w5 at *
      have HL := Lib.hid (less_off A n c R i j w5 (HR.out.below hT4.f) (by omega) (hT.below hT4.f) (Or.inl HNO.out))
      have c0 := hT4.a.c0
      go_wp2_with fail
      refine HL.out.mono ?_; rintro e w6 ⟨rfl, b6⟩
      have hT6 := hT4.next b6
      have rc6 := rc.below b6
      clear c0 hT4 rc b6 HL
      have c0 := hT6.a.c0
      have HV := Lib.hid (rpvalid_any A n c R false w6 (HR.out.below hT6.f) (by omega) ⟨(fun h => by cases h), fun h => absurd h HNO.out⟩)
      go_wp2_with fail
      refine HV.out.mono ?_; rintro e w7 ⟨rfl, b7⟩
      have hT7 := hT6.next b7
      have rc7 := rc6.below b7
      clear c0 hT6 rc6 b7 HV
      have c1 := rc7.c0
      go_wp2_with fail
      refine (pnone_any w7).mono ?_; rintro e w8 ⟨rfl, b8⟩
      go_wp2_with fail
      go_ret
      exact ⟨rfl, below_next hT7.f b8⟩
end Go.Proofs.YtakjdihhbndcnaaDoor
