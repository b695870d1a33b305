/- BitsChanges: the law's own text, walked: it returns true for every set and number. -/
import Derived.Test.YtijghglppgihmaaDoorLawOrd
import Derived.Deep.RegionHeld3
namespace Go.Proofs.YtijghglppgihmaaDoor
open Go.RowKit Go.Sort
theorem sets_one (w : World) (N : Int) (A : Option Addr) (la ca : Nat) :
    Sets (w.alloc (.cells #[.int .i64 N, .slice A la ca] 24)) w.heap.size 1 (fun _ => N) (fun _ => A) (fun _ => la) (fun _ => ca) := by
  refine ⟨by simp, fun k hk => ?_⟩
  have h := fun i => cell_of_row (w.alloc (.cells #[.int .i64 N, .slice A la ca] 24)) w.heap.size i _ _ _ (heap_alloc_new w _)
  rw [h, h]
  match k, hk with
  | 0, _ => exact ⟨rfl, rfl⟩
theorem has_both (N i : Int) (A : Option Addr) (la ca : Nat) (f : Nat → Nat) : ∃ v : Bool,
    (∀ w : World, Wds w A la f → Calls Tryd.prog 26 #[.agg #[.int .i64 N, .slice A la ca], .int .i64 i] w fun e w' => e = .returned (.bool v) ∧ Below w.heap.size w w') ∧
    (∀ w : World, Wds w A la f → Calls Tryd.prog 27 #[.agg #[.int .i64 N, .slice A la ca], .int .i64 i] w fun e w' => e = .returned (.bool v) ∧ Below w.heap.size w w') := by
  by_cases h : Vld N la f ∧ 0 ≤ i ∧ i < N
  · obtain ⟨hv, h0, h1⟩ := h
    obtain ⟨n, rfl⟩ := Int.eq_ofNat_of_zero_le hv.1
    obtain ⟨j, rfl⟩ := Int.eq_ofNat_of_zero_le h0
    exact ⟨bt f j, fun w hw => has_in n j A la ca f _ w hw hv (by omega) rfl, fun w hw => refHas_in n j A la ca f _ w hw hv (by omega) rfl⟩
  · exact ⟨false, fun w hw => has_out N i A la ca f w hw h, fun w hw => refHas_out N i A la ca f w hw h⟩
set_option maxRecDepth 100000 in
set_option maxHeartbeats 2000000 in
theorem changes_big (N i : Int) (A : Option Addr) (m ca : Nat) (w : World) (hT : Tab w) (hbig : Big (fun _ => m) 1) :
    Calls Tryd.prog 4 #[.agg #[.int .i64 N, .slice A m ca], .int .i64 i] w fun e w' => e = .returned (.bool true) ∧ Below w.heap.size w w' := by
  obtain ⟨J, hz, hJ⟩ := hbig
  have HZ := Lib.hid hz; clear hz
  have HJ := Lib.hid hJ; clear hJ
  have hO0 := one_new w N A m ca
  go_enter Tryd.func4, Tryd.ntmps4
  go_wp2_with fail
  refine (awake_any _ (hT.below hO0.b)).mono ?_; rintro e w1 ⟨rfl, b1⟩
  have hO1 := hO0.next b1
  clear hO0 b1
  have c0 := hO1.s.c0
  have c1 := hO1.s.c1
  go_wp2_with fail
  clear c0 c1
  refine (few_no w1.heap.size 1 _ _ _ _ J _ (sets_one w1 N A m ca) (by decide) HZ.out HJ.out).mono ?_; rintro e w2 ⟨rfl, b2⟩
  have hO2 := hO1.next (((Below.refl _ _).alloc (Nat.le_refl _) _).trans (b2.mono (by simp)))
  clear hO1 b2
  go_wp2_with fail
  refine (awake_any _ (hT.below hO2.b)).mono ?_; rintro e w3 ⟨rfl, b3⟩
  go_wp2_with fail
  go_ret
  exact ⟨rfl, (hO2.next b3).b⟩
set_option maxRecDepth 100000 in
set_option maxHeartbeats 4000000 in
theorem changes_inv (N i : Int) (A : Option Addr) (m ca : Nat) (f : Nat → Nat) (w : World) (ha : Wds w A m f) (hT : Tab w) (hfew : ∀ k, k < 1 → (fun _ : Nat => m) k ≤ 20) (hc : ¬ Vld N m f) :
    Calls Tryd.prog 4 #[.agg #[.int .i64 N, .slice A m ca], .int .i64 i] w fun e w' => e = .returned (.bool true) ∧ Below w.heap.size w w' := by
  obtain ⟨v, hh1, hh2⟩ := has_both N i A m ca f
  have H1 := Lib.hid hh1; clear hh1
  have H2 := Lib.hid hh2; clear hh2
  have E1 := Lib.hid (fun (w : World) (h : Wds w A m f) => withB_err N i A m ca f 1 w h (Or.inl ⟨hc, rfl⟩))
  have E2 := Lib.hid (fun (w : World) (h : Wds w A m f) => withoutB_err N i A m ca f 1 w h (Or.inl ⟨hc, rfl⟩))
  have HC := Lib.hid hc; clear hc
  have HA := Lib.hid ha; clear ha
  have HF := Lib.hid hfew; clear hfew
  have hO0 := one_new w N A m ca
  go_enter Tryd.func4, Tryd.ntmps4
  go_wp2_with fail
  refine (awake_any _ (hT.below hO0.b)).mono ?_; rintro e w1 ⟨rfl, b1⟩
  have hO1 := hO0.next b1
  clear hO0 b1
  have c0 := hO1.s.c0
  have c1 := hO1.s.c1
  go_wp2_with fail
  clear c0 c1
  refine (few_yes w1.heap.size 1 _ _ _ _ _ (sets_one w1 N A m ca) (by decide) HF.out).mono ?_; rintro e w2 ⟨rfl, b2⟩
  have hO2 := hO1.next (((Below.refl _ _).alloc (Nat.le_refl _) _).trans (b2.mono (by simp)))
  clear hO1 b2
  have c0 := hO2.s.c0
  have c1 := hO2.s.c1
  go_wp2_with fail
  clear c0 c1
  refine (E1.out _ (HA.out.below hO2.b)).mono ?_; rintro e w3 ⟨rfl, b3⟩
  have lt3 := (hO2.next b3).s.lt
  have hO3 := (hO2.next b3).alloc (.cells #[.int .i64 0, .slice none 0 0] 24)
  have a3 := setAt_new w3 0 none 0 0
  have c0 := hO3.s.c0
  have c1 := hO3.s.c1
  clear hO2 b3
  go_wp2_with fail
  clear c0 c1
  refine (E2.out _ (HA.out.below hO3.b)).mono ?_; rintro e w4 ⟨rfl, b4⟩
  have a4 := (a3.below b4).alloc (.cells #[.int .i64 0, .slice none 0 0] 24)
  have hO4 := (hO3.next b4).alloc (.cells #[.int .i64 0, .slice none 0 0] 24)
  have d4 := setAt_new w4 0 none 0 0
  clear hO3 b4 a3
  go_wp2_with fail
  generalize w3.heap.size = pa at *
  generalize w4.heap.size = pb at *
  generalize w4.alloc (.cells #[.int .i64 0, .slice none 0 0] 24) = W at *
  have k0 := cell_regrown hO4.s.c0
  have k1 := cell_regrown hO4.s.c1
  have CA := Lib.hid (fun d os => Calls.regrown_of (H1.out (grow (redrawn W d) os) (HA.out.below (below_next hO4.b (below_regrown W d os)))))
  have CB := Lib.hid (fun d os => Calls.regrown_of (H2.out (grow (redrawn W d) os) (HA.out.below (below_next hO4.b (below_regrown W d os)))))
  refine wp_region_quiet_below (by kernel_rfl) (by kernel_rfl) ?_
  repeat (first | go_big_quiet_step (first | with_reducible exact CA.out _ _ | with_reducible exact CB.out _ _) | quiet_step (first | with_reducible exact CA.out _ _ | with_reducible exact CB.out _ _))
  refine wpQuiet_nil ?_
  intro _ hw'
  obtain ⟨⟨dq, osq⟩, hw''⟩ := hw'
  subst hw''
  clear k0 k1
  have hb5 := below_regrown W dq osq
  have hO5 := hO4.next hb5
  have a5 := a4.below hb5
  have d5 := d4.below hb5
  have c0 := hO5.s.c0
  have c1 := hO5.s.c1
  clear hO4 hb5 a4 d4 CA CB
  go_wp2_with fail
  clear c0 c1
  refine (refValid_no _ _ _ _ _ _ (HA.out.below hO5.b) HC.out).mono ?_; rintro e w6 ⟨rfl, b6⟩
  have hO6 := hO5.next b6
  have a6 := a5.below b6
  have d6 := d5.below b6
  clear hO5 b6 a5 d5
  have x0 := a6.c0
  have x1 := a6.c1
  have c0 := hO6.s.c0
  have c1 := hO6.s.c1
  go_wp2_with fail
  clear c0 c1 x0 x1
  refine (none_zero _).mono ?_; rintro e w7 ⟨rfl, b7⟩
  have hO7 := hO6.next b7
  have d7 := d6.below b7
  clear hO6 b7 a6 d6
  have x0 := d7.c0
  have x1 := d7.c1
  go_wp2_with fail
  clear x0 x1
  refine (none_zero _).mono ?_; rintro e w8 ⟨rfl, b8⟩
  go_wp2_with fail
  go_ret
  exact ⟨by simp, (hO7.next b8).b⟩
set_option maxRecDepth 100000 in
set_option maxHeartbeats 4000000 in
theorem changes_neg (N i : Int) (A : Option Addr) (m ca : Nat) (f : Nat → Nat) (w : World) (ha : Wds w A m f) (hT : Tab w) (hfew : ∀ k, k < 1 → (fun _ : Nat => m) k ≤ 20) (hv : Vld N m f) (hc : i < 0) :
    Calls Tryd.prog 4 #[.agg #[.int .i64 N, .slice A m ca], .int .i64 i] w fun e w' => e = .returned (.bool true) ∧ Below w.heap.size w w' := by
  obtain ⟨v, hh1, hh2⟩ := has_both N i A m ca f
  have H1 := Lib.hid hh1; clear hh1
  have H2 := Lib.hid hh2; clear hh2
  have E1 := Lib.hid (fun (w : World) (h : Wds w A m f) => withB_err N i A m ca f 2 w h (Or.inr ⟨hv, Or.inl hc, rfl⟩))
  have E2 := Lib.hid (fun (w : World) (h : Wds w A m f) => withoutB_err N i A m ca f 2 w h (Or.inr ⟨hv, Or.inl hc, rfl⟩))
  have HV := Lib.hid hv; clear hv
  have hd1 : decide (i < 0) = true := decide_eq_true hc
  have HA := Lib.hid ha; clear ha
  have HF := Lib.hid hfew; clear hfew
  have hO0 := one_new w N A m ca
  go_enter Tryd.func4, Tryd.ntmps4
  go_wp2_with fail
  refine (awake_any _ (hT.below hO0.b)).mono ?_; rintro e w1 ⟨rfl, b1⟩
  have hO1 := hO0.next b1
  clear hO0 b1
  have c0 := hO1.s.c0
  have c1 := hO1.s.c1
  go_wp2_with fail
  clear c0 c1
  refine (few_yes w1.heap.size 1 _ _ _ _ _ (sets_one w1 N A m ca) (by decide) HF.out).mono ?_; rintro e w2 ⟨rfl, b2⟩
  have hO2 := hO1.next (((Below.refl _ _).alloc (Nat.le_refl _) _).trans (b2.mono (by simp)))
  clear hO1 b2
  have c0 := hO2.s.c0
  have c1 := hO2.s.c1
  go_wp2_with fail
  clear c0 c1
  refine (E1.out _ (HA.out.below hO2.b)).mono ?_; rintro e w3 ⟨rfl, b3⟩
  have lt3 := (hO2.next b3).s.lt
  have hO3 := (hO2.next b3).alloc (.cells #[.int .i64 0, .slice none 0 0] 24)
  have a3 := setAt_new w3 0 none 0 0
  have c0 := hO3.s.c0
  have c1 := hO3.s.c1
  clear hO2 b3
  go_wp2_with fail
  clear c0 c1
  refine (E2.out _ (HA.out.below hO3.b)).mono ?_; rintro e w4 ⟨rfl, b4⟩
  have a4 := (a3.below b4).alloc (.cells #[.int .i64 0, .slice none 0 0] 24)
  have hO4 := (hO3.next b4).alloc (.cells #[.int .i64 0, .slice none 0 0] 24)
  have d4 := setAt_new w4 0 none 0 0
  clear hO3 b4 a3
  go_wp2_with fail
  generalize w3.heap.size = pa at *
  generalize w4.heap.size = pb at *
  generalize w4.alloc (.cells #[.int .i64 0, .slice none 0 0] 24) = W at *
  have k0 := cell_regrown hO4.s.c0
  have k1 := cell_regrown hO4.s.c1
  have CA := Lib.hid (fun d os => Calls.regrown_of (H1.out (grow (redrawn W d) os) (HA.out.below (below_next hO4.b (below_regrown W d os)))))
  have CB := Lib.hid (fun d os => Calls.regrown_of (H2.out (grow (redrawn W d) os) (HA.out.below (below_next hO4.b (below_regrown W d os)))))
  refine wp_region_quiet_below (by kernel_rfl) (by kernel_rfl) ?_
  repeat (first | go_big_quiet_step (first | with_reducible exact CA.out _ _ | with_reducible exact CB.out _ _) | quiet_step (first | with_reducible exact CA.out _ _ | with_reducible exact CB.out _ _))
  refine wpQuiet_nil ?_
  intro _ hw'
  obtain ⟨⟨dq, osq⟩, hw''⟩ := hw'
  subst hw''
  clear k0 k1
  have hb5 := below_regrown W dq osq
  have hO5 := hO4.next hb5
  have a5 := a4.below hb5
  have d5 := d4.below hb5
  have c0 := hO5.s.c0
  have c1 := hO5.s.c1
  clear hO4 hb5 a4 d4 CA CB
  go_wp2_with fail
  clear c0 c1
  refine (refValid_yes _ _ _ _ _ _ (HA.out.below hO5.b) HV.out).mono ?_; rintro e w6 ⟨rfl, b6⟩
  have hO6 := hO5.next b6
  have a6 := a5.below b6
  have d6 := d5.below b6
  clear hO5 b6 a5 d5
  have x0 := a6.c0
  have x1 := a6.c1
  have c0 := hO6.s.c0
  have c1 := hO6.s.c1
  go_wp2_with fail
  clear c0 c1 x0 x1
  refine (none_zero _).mono ?_; rintro e w7 ⟨rfl, b7⟩
  have hO7 := hO6.next b7
  have d7 := d6.below b7
  clear hO6 b7 a6 d6
  have x0 := d7.c0
  have x1 := d7.c1
  go_wp2_with fail
  clear x0 x1
  refine (none_zero _).mono ?_; rintro e w8 ⟨rfl, b8⟩
  go_wp2_with fail
  go_ret
  exact ⟨by simp, (hO7.next b8).b⟩
set_option maxRecDepth 100000 in
set_option maxHeartbeats 4000000 in
theorem changes_high (N i : Int) (A : Option Addr) (m ca : Nat) (f : Nat → Nat) (w : World) (ha : Wds w A m f) (hT : Tab w) (hfew : ∀ k, k < 1 → (fun _ : Nat => m) k ≤ 20) (hv : Vld N m f) (h0 : 0 ≤ i) (hc : N ≤ i) :
    Calls Tryd.prog 4 #[.agg #[.int .i64 N, .slice A m ca], .int .i64 i] w fun e w' => e = .returned (.bool true) ∧ Below w.heap.size w w' := by
  obtain ⟨v, hh1, hh2⟩ := has_both N i A m ca f
  have H1 := Lib.hid hh1; clear hh1
  have H2 := Lib.hid hh2; clear hh2
  have E1 := Lib.hid (fun (w : World) (h : Wds w A m f) => withB_err N i A m ca f 2 w h (Or.inr ⟨hv, Or.inr hc, rfl⟩))
  have E2 := Lib.hid (fun (w : World) (h : Wds w A m f) => withoutB_err N i A m ca f 2 w h (Or.inr ⟨hv, Or.inr hc, rfl⟩))
  have HV := Lib.hid hv; clear hv
  have hd1 : decide (i < 0) = false := decide_eq_false (by omega)
  have hd2 : decide (N ≤ i) = true := decide_eq_true hc
  have HA := Lib.hid ha; clear ha
  have HF := Lib.hid hfew; clear hfew
  have hO0 := one_new w N A m ca
  go_enter Tryd.func4, Tryd.ntmps4
  go_wp2_with fail
  refine (awake_any _ (hT.below hO0.b)).mono ?_; rintro e w1 ⟨rfl, b1⟩
  have hO1 := hO0.next b1
  clear hO0 b1
  have c0 := hO1.s.c0
  have c1 := hO1.s.c1
  go_wp2_with fail
  clear c0 c1
  refine (few_yes w1.heap.size 1 _ _ _ _ _ (sets_one w1 N A m ca) (by decide) HF.out).mono ?_; rintro e w2 ⟨rfl, b2⟩
  have hO2 := hO1.next (((Below.refl _ _).alloc (Nat.le_refl _) _).trans (b2.mono (by simp)))
  clear hO1 b2
  have c0 := hO2.s.c0
  have c1 := hO2.s.c1
  go_wp2_with fail
  clear c0 c1
  refine (E1.out _ (HA.out.below hO2.b)).mono ?_; rintro e w3 ⟨rfl, b3⟩
  have lt3 := (hO2.next b3).s.lt
  have hO3 := (hO2.next b3).alloc (.cells #[.int .i64 0, .slice none 0 0] 24)
  have a3 := setAt_new w3 0 none 0 0
  have c0 := hO3.s.c0
  have c1 := hO3.s.c1
  clear hO2 b3
  go_wp2_with fail
  clear c0 c1
  refine (E2.out _ (HA.out.below hO3.b)).mono ?_; rintro e w4 ⟨rfl, b4⟩
  have a4 := (a3.below b4).alloc (.cells #[.int .i64 0, .slice none 0 0] 24)
  have hO4 := (hO3.next b4).alloc (.cells #[.int .i64 0, .slice none 0 0] 24)
  have d4 := setAt_new w4 0 none 0 0
  clear hO3 b4 a3
  go_wp2_with fail
  generalize w3.heap.size = pa at *
  generalize w4.heap.size = pb at *
  generalize w4.alloc (.cells #[.int .i64 0, .slice none 0 0] 24) = W at *
  have k0 := cell_regrown hO4.s.c0
  have k1 := cell_regrown hO4.s.c1
  have CA := Lib.hid (fun d os => Calls.regrown_of (H1.out (grow (redrawn W d) os) (HA.out.below (below_next hO4.b (below_regrown W d os)))))
  have CB := Lib.hid (fun d os => Calls.regrown_of (H2.out (grow (redrawn W d) os) (HA.out.below (below_next hO4.b (below_regrown W d os)))))
  refine wp_region_quiet_below (by kernel_rfl) (by kernel_rfl) ?_
  repeat (first | go_big_quiet_step (first | with_reducible exact CA.out _ _ | with_reducible exact CB.out _ _) | quiet_step (first | with_reducible exact CA.out _ _ | with_reducible exact CB.out _ _))
  refine wpQuiet_nil ?_
  intro _ hw'
  obtain ⟨⟨dq, osq⟩, hw''⟩ := hw'
  subst hw''
  clear k0 k1
  have hb5 := below_regrown W dq osq
  have hO5 := hO4.next hb5
  have a5 := a4.below hb5
  have d5 := d4.below hb5
  have c0 := hO5.s.c0
  have c1 := hO5.s.c1
  clear hO4 hb5 a4 d4 CA CB
  go_wp2_with fail
  clear c0 c1
  refine (refValid_yes _ _ _ _ _ _ (HA.out.below hO5.b) HV.out).mono ?_; rintro e w6 ⟨rfl, b6⟩
  have hO6 := hO5.next b6
  have a6 := a5.below b6
  have d6 := d5.below b6
  clear hO5 b6 a5 d5
  have x0 := a6.c0
  have x1 := a6.c1
  have c0 := hO6.s.c0
  have c1 := hO6.s.c1
  go_wp2_with fail
  clear c0 c1 x0 x1
  refine (none_zero _).mono ?_; rintro e w7 ⟨rfl, b7⟩
  have hO7 := hO6.next b7
  have d7 := d6.below b7
  clear hO6 b7 a6 d6
  have x0 := d7.c0
  have x1 := d7.c1
  go_wp2_with fail
  clear x0 x1
  refine (none_zero _).mono ?_; rintro e w8 ⟨rfl, b8⟩
  go_wp2_with fail
  go_ret
  exact ⟨by simp, (hO7.next b8).b⟩
set_option maxRecDepth 100000 in
set_option maxHeartbeats 4000000 in
theorem changes_yes (n i : Nat) (A : Option Addr) (m ca : Nat) (f : Nat → Nat) (w : World) (ha : Wds w A m f) (hT : Tab w) (hfew : ∀ k, k < 1 → (fun _ : Nat => m) k ≤ 20) (hv : Vld n m f) (hi : i < n) :
    Calls Tryd.prog 4 #[.agg #[.int .i64 n, .slice A m ca], .int .i64 i] w fun e w' => e = .returned (.bool true) ∧ Below w.heap.size w w' := by
  obtain ⟨v, hh1, hh2⟩ := has_both n i A m ca f
  have H1 := Lib.hid hh1; clear hh1
  have H2 := Lib.hid hh2; clear hh2
  have hn : n ≤ 512 := by have := hv.2.1; omega
  have hmd : m = (n + 63) / 64 := by have := hv.2.2.1; simpa using this
  have hm9 : m ≤ 9 := by omega
  have HMD := Lib.hid hmd; clear hmd
  have EW := Lib.hid (with_words ha.1 hv hi)
  have EO := Lib.hid (without_words (i := i) ha.1 hv)
  have UW := Lib.hid (u64_with ha.1 i)
  have UO := Lib.hid (u64_without ha.1 i)
  have HV := Lib.hid hv; clear hv
  have HA := Lib.hid ha; clear ha
  have RW := Lib.hid (fun (w : World) (h1 : Wds w A m f) => refWith_any n i A m ca f w h1 hn HMD.out hi)
  have RO := Lib.hid (fun (w : World) (h1 : Wds w A m f) => refWithout_any n i A m ca f w h1 hn HMD.out hi)
  rw [← HMD.out] at RW RO
  have HF := Lib.hid hfew; clear hfew
  have hd1 : decide ((i : Int) < 0) = false := decide_eq_false (by omega)
  have hd2 : decide ((n : Int) ≤ (i : Int)) = false := decide_eq_false (by omega)
  have hO0 := one_new w n A m ca
  go_enter Tryd.func4, Tryd.ntmps4
  go_wp2_with fail
  refine (awake_any _ (hT.below hO0.b)).mono ?_; rintro e w1 ⟨rfl, b1⟩
  have hO1 := hO0.next b1
  clear hO0 b1
  have c0 := hO1.s.c0
  have c1 := hO1.s.c1
  go_wp2_with fail
  clear c0 c1
  refine (few_yes w1.heap.size 1 _ _ _ _ _ (sets_one w1 n A m ca) (by decide) HF.out).mono ?_; rintro e w2 ⟨rfl, b2⟩
  have hO2 := hO1.next (((Below.refl _ _).alloc (Nat.le_refl _) _).trans (b2.mono (by simp)))
  clear hO1 b2
  have c0 := hO2.s.c0
  have c1 := hO2.s.c1
  go_wp2_with fail
  clear c0 c1
  refine (withB_any n i A m ca f _ (HA.out.below hO2.b) HV.out hi).mono ?_; rintro e w3 ⟨ga, rfl, hga, hra, b3⟩
  have lt3 := (hO2.next b3).s.lt
  have hO3 := (hO2.next b3).alloc (.cells #[.int .i64 n, .slice (some ⟨ga, 0, none⟩) m m] 24)
  have a3 := setAt_new w3 n (some ⟨ga, 0, none⟩) m m
  have ra3 := hra.alloc (.cells #[.int .i64 n, .slice (some ⟨ga, 0, none⟩) m m] 24)
  have c0 := hO3.s.c0
  have c1 := hO3.s.c1
  clear hO2 b3 hra
  go_wp2_with fail
  clear c0 c1
  refine (withoutB_any n i A m ca f _ (HA.out.below hO3.b) HV.out hi).mono ?_; rintro e w4 ⟨gb, rfl, hgb, hrb, b4⟩
  have a4 := (a3.below b4).alloc (.cells #[.int .i64 n, .slice (some ⟨gb, 0, none⟩) m m] 24)
  have ra4 := (row_below ra3 b4).alloc (.cells #[.int .i64 n, .slice (some ⟨gb, 0, none⟩) m m] 24)
  have hO4 := (hO3.next b4).alloc (.cells #[.int .i64 n, .slice (some ⟨gb, 0, none⟩) m m] 24)
  have d4 := setAt_new w4 n (some ⟨gb, 0, none⟩) m m
  have rb4 := hrb.alloc (.cells #[.int .i64 n, .slice (some ⟨gb, 0, none⟩) m m] 24)
  clear hO3 b4 a3 ra3 hrb
  go_wp2_with fail
  generalize w3.heap.size = pa at *
  generalize w4.heap.size = pb at *
  generalize w4.alloc (.cells #[.int .i64 n, .slice (some ⟨gb, 0, none⟩) m m] 24) = W at *
  have k0 := cell_regrown hO4.s.c0
  have k1 := cell_regrown hO4.s.c1
  have CA := Lib.hid (fun d os => Calls.regrown_of (H1.out (grow (redrawn W d) os) (HA.out.below (below_next hO4.b (below_regrown W d os)))))
  have CB := Lib.hid (fun d os => Calls.regrown_of (H2.out (grow (redrawn W d) os) (HA.out.below (below_next hO4.b (below_regrown W d os)))))
  refine wp_region_quiet_below (by kernel_rfl) (by kernel_rfl) ?_
  repeat (first | go_big_quiet_step (first | with_reducible exact CA.out _ _ | with_reducible exact CB.out _ _) | quiet_step (first | with_reducible exact CA.out _ _ | with_reducible exact CB.out _ _))
  refine wpQuiet_nil ?_
  intro _ hw'
  obtain ⟨⟨dq, osq⟩, hw''⟩ := hw'
  subst hw''
  clear k0 k1
  have hb5 := below_regrown W dq osq
  have hO5 := hO4.next hb5
  have a5 := a4.below hb5
  have d5 := d4.below hb5
  have ra5 := row_below ra4 hb5
  have rb5 := row_below rb4 hb5
  have c0 := hO5.s.c0
  have c1 := hO5.s.c1
  clear hO4 hb5 a4 d4 ra4 rb4 CA CB
  go_wp2_with fail
  clear c0 c1
  refine (refValid_yes _ _ _ _ _ _ (HA.out.below hO5.b) HV.out).mono ?_; rintro e W6 ⟨rfl, b6⟩
  have hO6 := hO5.next b6
  have a6 := a5.below b6
  have d6 := d5.below b6
  have ra6 := row_below ra5 b6
  have rb6 := row_below rb5 b6
  clear hO5 b6 a5 d5 ra5 rb5
  have c0 := hO6.s.c0
  have c1 := hO6.s.c1
  go_wp2_with fail
  clear c0 c1
  have HS : ∀ w', Below W6.heap.size W6 w' → Below W6.heap.size W6 w' ∧ w'.cell? ⟨w.heap.size, 0, none⟩ = some (.int .i64 n) ∧ w'.cell? ⟨w.heap.size, 1, none⟩ = some (.slice A m ca) ∧
      w'.cell? ⟨pa, 0, none⟩ = some (.int .i64 n) ∧ w'.cell? ⟨pa, 1, none⟩ = some (.slice (some ⟨ga, 0, none⟩) m m) ∧ w'.cell? ⟨pb, 0, none⟩ = some (.int .i64 n) ∧ w'.cell? ⟨pb, 1, none⟩ = some (.slice (some ⟨gb, 0, none⟩) m m) := fun w' b =>
    ⟨b, (hO6.next b).s.c0, (hO6.next b).s.c1, (a6.below b).c0, (a6.below b).c1, (d6.below b).c0, (d6.below b).c1⟩
  have HSS := Lib.hid HS; clear HS
  go_region_held3 (fun w' => Below W6.heap.size W6 w' ∧ w'.cell? ⟨w.heap.size, 0, none⟩ = some (.int .i64 n) ∧ w'.cell? ⟨w.heap.size, 1, none⟩ = some (.slice A m ca) ∧
      w'.cell? ⟨pa, 0, none⟩ = some (.int .i64 n) ∧ w'.cell? ⟨pa, 1, none⟩ = some (.slice (some ⟨ga, 0, none⟩) m m) ∧ w'.cell? ⟨pb, 0, none⟩ = some (.int .i64 n) ∧ w'.cell? ⟨pb, 1, none⟩ = some (.slice (some ⟨gb, 0, none⟩) m m))
    (first
      | exact HSS.out _ (Below.refl _ _).drew
      | exact HSS.out _ (below_next (And.left (by assumption)) bx))
    (first
      | (go_at_call 28; refine (RW.out _ (HA.out.below (below_next hO6.b (And.left (by assumption))))).mono ?_; rintro e wx ⟨gx, rfl, hgx, hrx, bx⟩)
      | (go_at_call 29; refine (RO.out _ (HA.out.below (below_next hO6.b (And.left (by assumption))))).mono ?_; rintro e wx ⟨gx, rfl, hgx, hrx, bx⟩)
      | (go_at_call 18; with_reducible refine (refSame_any n (some ⟨ga, 0, none⟩) (some ⟨gx, 0, none⟩) m m m (chg orW f i) _ m true _ (row_wds (row_below ra6 (And.left (by assumption))) UW.out) (row_wds hrx (ofl_u64 _ _)) (by omega) (Nat.le_refl _) EW.out (Or.inl ⟨rfl, rfl⟩)).mono ?_; rintro e wy ⟨rfl, bx⟩)
      | (go_at_call 18; with_reducible refine (refSame_any n (some ⟨gb, 0, none⟩) (some ⟨gx, 0, none⟩) m m m (chg andNot f i) _ m true _ (row_wds (row_below rb6 (And.left (by assumption))) UO.out) (row_wds hrx (ofl_u64 _ _)) (by omega) (Nat.le_refl _) EO.out (Or.inl ⟨rfl, rfl⟩)).mono ?_; rintro e wy ⟨rfl, bx⟩))
  all_goals
    have hF := below_next hO6.b (And.left (by assumption))
    go_wp2_with fail
    go_ret
    exact ⟨by simp, hF⟩
theorem changes_law (N : Int) (A : Option Addr) (m ca : Nat) (f : Nat → Nat) (i : Int) (w : World) (ha : Wds w A m f) (hT : Tab w) :
    Calls Tryd.prog 4 #[.agg #[.int .i64 N, .slice A m ca], .int .i64 i] w fun e w' => e = .returned (.bool true) ∧ Below w.heap.size w w' := by
  rcases big_or (fun _ => m) 1 with hfew | hbig
  · by_cases hv : Vld N m f
    · by_cases h0 : i < 0
      · exact changes_neg N i A m ca f w ha hT hfew hv h0
      · by_cases h1 : N ≤ i
        · exact changes_high N i A m ca f w ha hT hfew hv (by omega) h1
        · obtain ⟨n, rfl⟩ := Int.eq_ofNat_of_zero_le hv.1
          obtain ⟨j, rfl⟩ := Int.eq_ofNat_of_zero_le (show 0 ≤ i by omega)
          exact changes_yes n j A m ca f w ha hT hfew hv (by omega)
    · exact changes_inv N i A m ca f w ha hT hfew hv
  · exact changes_big N i A m ca w hT hbig
end Go.Proofs.YtijghglppgihmaaDoor
