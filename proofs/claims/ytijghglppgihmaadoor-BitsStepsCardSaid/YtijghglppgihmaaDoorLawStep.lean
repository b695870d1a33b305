/- BitsSteps: the law's own text, walked: it returns true for every set and number. -/
import Derived.Test.YtijghglppgihmaaDoorLawChg
namespace Go.Proofs.YtijghglppgihmaaDoor
open Go.RowKit Go.Sort
theorem len_steps (f : Nat → Nat) (i : Nat) : ∀ n, (mem (chg orW f i) n).length = (mem (chg andNot f i) n).length + if i < n then 1 else 0 := by
  intro n
  induction n with
  | zero => rfl
  | succ n ih =>
    rw [len_succ, len_succ, bt_with, bt_without, ih]
    by_cases e : n = i
    · subst e
      rw [if_neg (Nat.lt_irrefl n), if_pos (Nat.lt_succ_self n)]
      simp
    · have h1 : (i < n + 1) ↔ (i < n) := by omega
      have h2 : decide (n = i) = false := decide_eq_false e
      rw [h2, Bool.or_false, Bool.not_false, Bool.and_true]
      simp only [h1]
      omega
theorem cnt_steps (f : Nat → Nat) (i m : Nat) (h : i < 64 * m) : cnt (chg orW f i) m = cnt (chg andNot f i) m + 1 := by
  rw [cnt_mem, cnt_mem, len_steps, if_pos h]
theorem words_undo {f : Nat → Nat} {m : Nat} (hu : U64 f m) (i : Nat) : ∀ k, k < m → chg andNot f i k = chg andNot (chg orW f i) i k :=
  bt_ext (u64_without hu i) (u64_without (u64_with hu i) i) fun j _ => by
    rw [bt_without, bt_without, bt_with]
    cases bt f j <;> by_cases e : j = i <;> simp [e]
theorem words_had {f : Nat → Nat} {m : Nat} (hu : U64 f m) (i : Nat) (h : bt f i = true) : ∀ k, k < m → chg orW f i k = f k :=
  bt_ext (u64_with hu i) hu fun j _ => by
    rw [bt_with]
    by_cases e : j = i
    · subst e; simp [h]
    · simp [e]
theorem words_not {f : Nat → Nat} {m : Nat} (hu : U64 f m) (i : Nat) (h : bt f i = false) : ∀ k, k < m → chg andNot f i k = f k :=
  bt_ext (u64_without hu i) hu fun j _ => by
    rw [bt_without]
    by_cases e : j = i
    · subst e; simp [h]
    · simp [e]
set_option maxRecDepth 100000 in
set_option maxHeartbeats 2000000 in
theorem steps_big (N i : Int) (A : Option Addr) (m ca : Nat) (w : World) (hT : Tab w) (hbig : Big (fun _ => m) 1) :
    Calls Tryd.prog 10 #[.agg #[.int .i64 N, .slice A m ca], .int .i64 i] w fun e w' => e = .returned (.bool true) ∧ Below w.heap.size w w' := by
  obtain ⟨J, hz, hJ⟩ := hbig
  have HZ := Lib.hid hz; clear hz
  have HJ := Lib.hid hJ; clear hJ
  have hO0 := one_new w N A m ca
  go_enter Tryd.func10, Tryd.ntmps10
  go_wp2_with fail
  refine (awake_any _ (hT.below hO0.b)).mono ?_; rintro e w1 ⟨rfl, b1⟩
  have hO1 := hO0.next b1
  clear hO0 b1
  have c0 := hO1.s.c0
  have c1 := hO1.s.c1
  go_wp2_with fail
  clear c0 c1
  refine (few_no w1.heap.size 1 _ _ _ _ J _ (sets_one w1 N A m ca) (by decide) HZ.out HJ.out).mono ?_; rintro e w2 ⟨rfl, b2⟩
  have hO2 := hO1.next (((Below.refl _ _).alloc (Nat.le_refl _) _).trans (b2.mono (by simp)))
  clear hO1 b2
  go_wp2_with fail
  refine (awake_any _ (hT.below hO2.b)).mono ?_; rintro e w3 ⟨rfl, b3⟩
  go_wp2_with fail
  go_ret
  exact ⟨rfl, (hO2.next b3).b⟩
set_option maxRecDepth 100000 in
set_option maxHeartbeats 4000000 in
theorem steps_inv (N i : Int) (A : Option Addr) (m ca : Nat) (f : Nat → Nat) (w : World) (ha : Wds w A m f) (hT : Tab w) (hfew : ∀ k, k < 1 → (fun _ : Nat => m) k ≤ 20) (hc : ¬ Vld N m f) :
    Calls Tryd.prog 10 #[.agg #[.int .i64 N, .slice A m ca], .int .i64 i] w fun e w' => e = .returned (.bool true) ∧ Below w.heap.size w w' := by
  have HC := Lib.hid hc; clear hc
  have HA := Lib.hid ha; clear ha
  have HF := Lib.hid hfew; clear hfew
  have hO0 := one_new w N A m ca
  go_enter Tryd.func10, Tryd.ntmps10
  go_wp2_with fail
  refine (awake_any _ (hT.below hO0.b)).mono ?_; rintro e w1 ⟨rfl, b1⟩
  have hO1 := hO0.next b1
  clear hO0 b1
  have c0 := hO1.s.c0
  have c1 := hO1.s.c1
  go_wp2_with fail
  clear c0 c1
  refine (few_yes w1.heap.size 1 _ _ _ _ _ (sets_one w1 N A m ca) (by decide) HF.out).mono ?_; rintro e w2 ⟨rfl, b2⟩
  have hO2 := hO1.next (((Below.refl _ _).alloc (Nat.le_refl _) _).trans (b2.mono (by simp)))
  clear hO1 b2
  have c0 := hO2.s.c0
  have c1 := hO2.s.c1
  go_wp2_with fail
  clear c0 c1
  refine (refValid_no _ _ _ _ _ _ (HA.out.below hO2.b) HC.out).mono ?_; rintro e w3 ⟨rfl, b3⟩
  have hO3 := hO2.next b3
  clear hO2 b3
  have c0 := hO3.s.c0
  go_wp2_with fail
  clear c0
  refine (awake_any _ (hT.below hO3.b)).mono ?_; rintro e w4 ⟨rfl, b4⟩
  go_wp2_with fail
  go_ret
  exact ⟨rfl, (hO3.next b4).b⟩
set_option maxRecDepth 100000 in
set_option maxHeartbeats 4000000 in
theorem steps_neg (N i : Int) (A : Option Addr) (m ca : Nat) (f : Nat → Nat) (w : World) (ha : Wds w A m f) (hT : Tab w) (hfew : ∀ k, k < 1 → (fun _ : Nat => m) k ≤ 20) (hv : Vld N m f) (hc : i < 0) :
    Calls Tryd.prog 10 #[.agg #[.int .i64 N, .slice A m ca], .int .i64 i] w fun e w' => e = .returned (.bool true) ∧ Below w.heap.size w w' := by
  have HV := Lib.hid hv; clear hv
  have hd1 : decide (i < 0) = true := decide_eq_true hc
  have HA := Lib.hid ha; clear ha
  have HF := Lib.hid hfew; clear hfew
  have hO0 := one_new w N A m ca
  go_enter Tryd.func10, Tryd.ntmps10
  go_wp2_with fail
  refine (awake_any _ (hT.below hO0.b)).mono ?_; rintro e w1 ⟨rfl, b1⟩
  have hO1 := hO0.next b1
  clear hO0 b1
  have c0 := hO1.s.c0
  have c1 := hO1.s.c1
  go_wp2_with fail
  clear c0 c1
  refine (few_yes w1.heap.size 1 _ _ _ _ _ (sets_one w1 N A m ca) (by decide) HF.out).mono ?_; rintro e w2 ⟨rfl, b2⟩
  have hO2 := hO1.next (((Below.refl _ _).alloc (Nat.le_refl _) _).trans (b2.mono (by simp)))
  clear hO1 b2
  have c0 := hO2.s.c0
  have c1 := hO2.s.c1
  go_wp2_with fail
  clear c0 c1
  refine (refValid_yes _ _ _ _ _ _ (HA.out.below hO2.b) HV.out).mono ?_; rintro e w3 ⟨rfl, b3⟩
  have hO3 := hO2.next b3
  clear hO2 b3
  have c0 := hO3.s.c0
  go_wp2_with fail
  clear c0
  refine (awake_any _ (hT.below hO3.b)).mono ?_; rintro e w4 ⟨rfl, b4⟩
  go_wp2_with fail
  go_ret
  exact ⟨rfl, (hO3.next b4).b⟩
set_option maxRecDepth 100000 in
set_option maxHeartbeats 4000000 in
theorem steps_high (N i : Int) (A : Option Addr) (m ca : Nat) (f : Nat → Nat) (w : World) (ha : Wds w A m f) (hT : Tab w) (hfew : ∀ k, k < 1 → (fun _ : Nat => m) k ≤ 20) (hv : Vld N m f) (h0 : 0 ≤ i) (hc : N ≤ i) :
    Calls Tryd.prog 10 #[.agg #[.int .i64 N, .slice A m ca], .int .i64 i] w fun e w' => e = .returned (.bool true) ∧ Below w.heap.size w w' := by
  have HV := Lib.hid hv; clear hv
  have hd1 : decide (i < 0) = false := decide_eq_false (by omega)
  have hd2 : decide (N ≤ i) = true := decide_eq_true hc
  have HA := Lib.hid ha; clear ha
  have HF := Lib.hid hfew; clear hfew
  have hO0 := one_new w N A m ca
  go_enter Tryd.func10, Tryd.ntmps10
  go_wp2_with fail
  refine (awake_any _ (hT.below hO0.b)).mono ?_; rintro e w1 ⟨rfl, b1⟩
  have hO1 := hO0.next b1
  clear hO0 b1
  have c0 := hO1.s.c0
  have c1 := hO1.s.c1
  go_wp2_with fail
  clear c0 c1
  refine (few_yes w1.heap.size 1 _ _ _ _ _ (sets_one w1 N A m ca) (by decide) HF.out).mono ?_; rintro e w2 ⟨rfl, b2⟩
  have hO2 := hO1.next (((Below.refl _ _).alloc (Nat.le_refl _) _).trans (b2.mono (by simp)))
  clear hO1 b2
  have c0 := hO2.s.c0
  have c1 := hO2.s.c1
  go_wp2_with fail
  clear c0 c1
  refine (refValid_yes _ _ _ _ _ _ (HA.out.below hO2.b) HV.out).mono ?_; rintro e w3 ⟨rfl, b3⟩
  have hO3 := hO2.next b3
  clear hO2 b3
  have c0 := hO3.s.c0
  go_wp2_with fail
  clear c0
  refine (awake_any _ (hT.below hO3.b)).mono ?_; rintro e w4 ⟨rfl, b4⟩
  go_wp2_with fail
  go_ret
  exact ⟨rfl, (hO3.next b4).b⟩
set_option maxRecDepth 100000 in
set_option maxHeartbeats 4000000 in
theorem steps_true (n i : Nat) (A : Option Addr) (m ca : Nat) (f : Nat → Nat) (w : World) (ha : Wds w A m f) (hT : Tab w) (hfew : ∀ k, k < 1 → (fun _ : Nat => m) k ≤ 20) (hv : Vld n m f) (hi : i < n) (hb : bt f i = true) :
    Calls Tryd.prog 10 #[.agg #[.int .i64 n, .slice A m ca], .int .i64 i] w fun e w' => e = .returned (.bool true) ∧ Below w.heap.size w w' := by
  have hmd : m = (n + 63) / 64 := by have := hv.2.2.1; simpa using this
  have hn : n ≤ 512 := by have := hv.2.1; omega
  have hm9 : m ≤ 9 := by omega
  have UW := Lib.hid (u64_with ha.1 i)
  have UO := Lib.hid (u64_without ha.1 i)
  have UWO := Lib.hid (u64_without (u64_with ha.1 i) i)
  have VW := Lib.hid (vld_with hv hi)
  have VO := Lib.hid (vld_without hv i)
  have E1 := Lib.hid (words_undo ha.1 i)
  have E2 := Lib.hid (words_had ha.1 i hb)
  have hcs := cnt_steps f i m (by omega)
  have hcl := cnt_le (chg andNot f i) m
  obtain ⟨ca1, hca1⟩ : ∃ x, x = cnt (chg orW f i) m := ⟨_, rfl⟩
  obtain ⟨cb1, hcb1⟩ : ∃ x, x = cnt (chg andNot f i) m := ⟨_, rfl⟩
  rw [← hca1, ← hcb1] at hcs
  rw [← hcb1] at hcl
  have HCA := Lib.hid hca1; clear hca1
  have HCB := Lib.hid hcb1; clear hcb1
  subst hcs
  have HMD := Lib.hid hmd; clear hmd
  have HV := Lib.hid hv; clear hv
  have HA := Lib.hid ha; clear ha
  have HB := Lib.hid hb; clear hb
  have HF := Lib.hid hfew; clear hfew
  have hd1 : decide ((i : Int) < 0) = false := decide_eq_false (by omega)
  have hd2 : decide ((n : Int) ≤ (i : Int)) = false := decide_eq_false (by omega)
  have hO0 := one_new w n A m ca
  go_enter Tryd.func10, Tryd.ntmps10
  go_wp2_with fail
  refine (awake_any _ (hT.below hO0.b)).mono ?_; rintro e w1 ⟨rfl, b1⟩
  have hO1 := hO0.next b1
  clear hO0 b1
  have c0 := hO1.s.c0
  have c1 := hO1.s.c1
  go_wp2_with fail
  clear c0 c1
  refine (few_yes w1.heap.size 1 _ _ _ _ _ (sets_one w1 n A m ca) (by decide) HF.out).mono ?_; rintro e w2 ⟨rfl, b2⟩
  have hO2 := hO1.next (((Below.refl _ _).alloc (Nat.le_refl _) _).trans (b2.mono (by simp)))
  clear hO1 b2
  have c0 := hO2.s.c0
  have c1 := hO2.s.c1
  go_wp2_with fail
  clear c0 c1
  refine (refValid_yes _ _ _ _ _ _ (HA.out.below hO2.b) HV.out).mono ?_; rintro e w2b ⟨rfl, b2b⟩
  have hO2b := hO2.next b2b
  clear hO2 b2b
  have c0 := hO2b.s.c0
  have c1 := hO2b.s.c1
  go_wp2_with fail
  clear c0 c1
  refine (withB_any n i A m ca f _ (HA.out.below hO2b.b) HV.out hi).mono ?_; rintro e w3 ⟨ga, rfl, hga, hra, b3⟩
  have lt3 := (hO2b.next b3).s.lt
  have hO3 := (hO2b.next b3).alloc (.cells #[.int .i64 n, .slice (some ⟨ga, 0, none⟩) m m] 24)
  have a3 := setAt_new w3 n (some ⟨ga, 0, none⟩) m m
  have ra3 := hra.alloc (.cells #[.int .i64 n, .slice (some ⟨ga, 0, none⟩) m m] 24)
  have c0 := hO3.s.c0
  have c1 := hO3.s.c1
  clear hO2b b3 hra
  go_wp2_with fail
  clear c0 c1
  refine (withoutB_any n i A m ca f _ (HA.out.below hO3.b) HV.out hi).mono ?_; rintro e w4 ⟨gb, rfl, hgb, hrb, b4⟩
  have lta := a3.below b4 |>.lt
  have a4 := (a3.below b4).alloc (.cells #[.int .i64 n, .slice (some ⟨gb, 0, none⟩) m m] 24)
  have ra4 := (row_below ra3 b4).alloc (.cells #[.int .i64 n, .slice (some ⟨gb, 0, none⟩) m m] 24)
  have hO4 := (hO3.next b4).alloc (.cells #[.int .i64 n, .slice (some ⟨gb, 0, none⟩) m m] 24)
  have d4 := setAt_new w4 n (some ⟨gb, 0, none⟩) m m
  have rb4 := hrb.alloc (.cells #[.int .i64 n, .slice (some ⟨gb, 0, none⟩) m m] 24)
  have x0 := a4.c0
  have x1 := a4.c1
  clear hO3 b4 a3 ra3 hrb
  go_wp2_with fail
  clear x0 x1
  refine (withoutB_any n i (some ⟨ga, 0, none⟩) m m (chg orW f i) _ (row_wds ra4 UW.out) VW.out hi).mono ?_; rintro e w5 ⟨gc, rfl, hgc, hrc, b5⟩
  have a5 := (a4.below b5).alloc (.cells #[.int .i64 n, .slice (some ⟨gc, 0, none⟩) m m] 24)
  have ra5 := (row_below ra4 b5).alloc (.cells #[.int .i64 n, .slice (some ⟨gc, 0, none⟩) m m] 24)
  have d5 := (d4.below b5).alloc (.cells #[.int .i64 n, .slice (some ⟨gc, 0, none⟩) m m] 24)
  have rb5 := (row_below rb4 b5).alloc (.cells #[.int .i64 n, .slice (some ⟨gc, 0, none⟩) m m] 24)
  have hO5 := (hO4.next b5).alloc (.cells #[.int .i64 n, .slice (some ⟨gc, 0, none⟩) m m] 24)
  have e5 := setAt_new w5 n (some ⟨gc, 0, none⟩) m m
  have rc5 := hrc.alloc (.cells #[.int .i64 n, .slice (some ⟨gc, 0, none⟩) m m] 24)
  clear hO4 b5 a4 d4 ra4 rb4 hrc
  go_wp2_with fail
  generalize w3.heap.size = pa at *
  generalize w4.heap.size = pb at *
  generalize w5.heap.size = pc at *
  generalize w5.alloc (.cells #[.int .i64 n, .slice (some ⟨gc, 0, none⟩) m m] 24) = W at *
  have k0 := cell_regrown a5.c0
  have k1 := cell_regrown a5.c1
  have k2 := cell_regrown d5.c0
  have k3 := cell_regrown d5.c1
  have k4 := cell_regrown e5.c0
  have k5 := cell_regrown e5.c1
  have hbi : bt (chg orW f i) i = true := by rw [bt_with]; simp
  have hbo : bt (chg andNot f i) i = false := by rw [bt_without]; simp
  have CA := Lib.hid (fun d os => Calls.regrown_of (has_in n i (some ⟨ga, 0, none⟩) m m (chg orW f i) true (grow (redrawn W d) os) ((row_wds ra5 UW.out).below (below_regrown W d os)) VW.out hi hbi))
  have CB := Lib.hid (fun d os => Calls.regrown_of (has_in n i (some ⟨gb, 0, none⟩) m m (chg andNot f i) false (grow (redrawn W d) os) ((row_wds rb5 UO.out).below (below_regrown W d os)) VO.out hi hbo))
  have CC := Lib.hid (fun d os => Calls.regrown_of (refSame_any n (some ⟨gb, 0, none⟩) (some ⟨gc, 0, none⟩) m m m (chg andNot f i) (chg andNot (chg orW f i) i) m true (grow (redrawn W d) os) ((row_wds rb5 UO.out).below (below_regrown W d os)) ((row_wds rc5 UWO.out).below (below_regrown W d os)) (by omega) (Nat.le_refl _) E1.out (Or.inl ⟨rfl, rfl⟩)))
  have CD := Lib.hid (fun d os => Calls.regrown_of (count_yes n (some ⟨ga, 0, none⟩) m m (chg orW f i) (grow (redrawn W d) os) ((row_wds ra5 UW.out).below (below_regrown W d os)) VW.out))
  have CE := Lib.hid (fun d os => Calls.regrown_of (count_yes n (some ⟨gb, 0, none⟩) m m (chg andNot f i) (grow (redrawn W d) os) ((row_wds rb5 UO.out).below (below_regrown W d os)) VO.out))
  rw [← HCA.out] at CD
  rw [← HCB.out] at CE
  clear hbi hbo
  have hw1 : IntKind.i64.wrap ((cb1 : Int) + 1) = (cb1 : Int) + 1 := IntWalk.i64_in _ (by omega)
  refine wp_region_quiet_below (by kernel_rfl) (by kernel_rfl) ?_
  repeat (first | go_big_quiet_step (first | with_reducible exact CA.out _ _ | with_reducible exact CB.out _ _ | with_reducible exact CC.out _ _ | with_reducible exact CD.out _ _ | with_reducible exact CE.out _ _) | quiet_step (first | with_reducible exact CA.out _ _ | with_reducible exact CB.out _ _ | with_reducible exact CC.out _ _ | with_reducible exact CD.out _ _ | with_reducible exact CE.out _ _))
  refine wpQuiet_nil ?_
  intro _ hw'
  obtain ⟨⟨dq, osq⟩, hw''⟩ := hw'
  subst hw''
  clear k0 k1 k2 k3 k4 k5 CA CB CC CD CE hw1
  have hb6 := below_regrown W dq osq
  have hO6 := hO5.next hb6
  have a6 := a5.below hb6
  have d6 := d5.below hb6
  have ra6 := row_below ra5 hb6
  have rb6 := row_below rb5 hb6
  have c0 := hO6.s.c0
  have c1 := hO6.s.c1
  clear hO5 hb6 a5 d5 e5 ra5 rb5 rc5
  go_wp2_with fail
  clear c0 c1
  refine (has_in n i A m ca f true _ (HA.out.below hO6.b) HV.out hi HB.out).mono ?_; rintro e w7 ⟨rfl, b7⟩
  have hO7 := hO6.next b7
  have a7 := a6.below b7
  have d7 := d6.below b7
  have ra7 := row_below ra6 b7
  have rb7 := row_below rb6 b7
  have x0 := a7.c0
  have x1 := a7.c1
  have c0 := hO7.s.c0
  have c1 := hO7.s.c1
  clear hO6 b7 a6 d6 ra6 rb6
  go_wp2_with fail
  clear c0 c1 x0 x1
  refine (refSame_any n (some ⟨ga, 0, none⟩) A m m ca (chg orW f i) f m true _ (row_wds ra7 UW.out) (HA.out.below hO7.b) (by omega) (Nat.le_refl _) E2.out (Or.inl ⟨rfl, rfl⟩)).mono ?_; rintro e w8 ⟨rfl, b8⟩
  go_wp2_with fail
  go_ret
  exact ⟨rfl, (hO7.next b8).b⟩
set_option maxRecDepth 100000 in
set_option maxHeartbeats 4000000 in
theorem steps_false (n i : Nat) (A : Option Addr) (m ca : Nat) (f : Nat → Nat) (w : World) (ha : Wds w A m f) (hT : Tab w) (hfew : ∀ k, k < 1 → (fun _ : Nat => m) k ≤ 20) (hv : Vld n m f) (hi : i < n) (hb : bt f i = false) :
    Calls Tryd.prog 10 #[.agg #[.int .i64 n, .slice A m ca], .int .i64 i] w fun e w' => e = .returned (.bool true) ∧ Below w.heap.size w w' := by
  have hmd : m = (n + 63) / 64 := by have := hv.2.2.1; simpa using this
  have hn : n ≤ 512 := by have := hv.2.1; omega
  have hm9 : m ≤ 9 := by omega
  have UW := Lib.hid (u64_with ha.1 i)
  have UO := Lib.hid (u64_without ha.1 i)
  have UWO := Lib.hid (u64_without (u64_with ha.1 i) i)
  have VW := Lib.hid (vld_with hv hi)
  have VO := Lib.hid (vld_without hv i)
  have E1 := Lib.hid (words_undo ha.1 i)
  have E2 := Lib.hid (words_not ha.1 i hb)
  have hcs := cnt_steps f i m (by omega)
  have hcl := cnt_le (chg andNot f i) m
  obtain ⟨ca1, hca1⟩ : ∃ x, x = cnt (chg orW f i) m := ⟨_, rfl⟩
  obtain ⟨cb1, hcb1⟩ : ∃ x, x = cnt (chg andNot f i) m := ⟨_, rfl⟩
  rw [← hca1, ← hcb1] at hcs
  rw [← hcb1] at hcl
  have HCA := Lib.hid hca1; clear hca1
  have HCB := Lib.hid hcb1; clear hcb1
  subst hcs
  have HMD := Lib.hid hmd; clear hmd
  have HV := Lib.hid hv; clear hv
  have HA := Lib.hid ha; clear ha
  have HB := Lib.hid hb; clear hb
  have HF := Lib.hid hfew; clear hfew
  have hd1 : decide ((i : Int) < 0) = false := decide_eq_false (by omega)
  have hd2 : decide ((n : Int) ≤ (i : Int)) = false := decide_eq_false (by omega)
  have hO0 := one_new w n A m ca
  go_enter Tryd.func10, Tryd.ntmps10
  go_wp2_with fail
  refine (awake_any _ (hT.below hO0.b)).mono ?_; rintro e w1 ⟨rfl, b1⟩
  have hO1 := hO0.next b1
  clear hO0 b1
  have c0 := hO1.s.c0
  have c1 := hO1.s.c1
  go_wp2_with fail
  clear c0 c1
  refine (few_yes w1.heap.size 1 _ _ _ _ _ (sets_one w1 n A m ca) (by decide) HF.out).mono ?_; rintro e w2 ⟨rfl, b2⟩
  have hO2 := hO1.next (((Below.refl _ _).alloc (Nat.le_refl _) _).trans (b2.mono (by simp)))
  clear hO1 b2
  have c0 := hO2.s.c0
  have c1 := hO2.s.c1
  go_wp2_with fail
  clear c0 c1
  refine (refValid_yes _ _ _ _ _ _ (HA.out.below hO2.b) HV.out).mono ?_; rintro e w2b ⟨rfl, b2b⟩
  have hO2b := hO2.next b2b
  clear hO2 b2b
  have c0 := hO2b.s.c0
  have c1 := hO2b.s.c1
  go_wp2_with fail
  clear c0 c1
  refine (withB_any n i A m ca f _ (HA.out.below hO2b.b) HV.out hi).mono ?_; rintro e w3 ⟨ga, rfl, hga, hra, b3⟩
  have lt3 := (hO2b.next b3).s.lt
  have hO3 := (hO2b.next b3).alloc (.cells #[.int .i64 n, .slice (some ⟨ga, 0, none⟩) m m] 24)
  have a3 := setAt_new w3 n (some ⟨ga, 0, none⟩) m m
  have ra3 := hra.alloc (.cells #[.int .i64 n, .slice (some ⟨ga, 0, none⟩) m m] 24)
  have c0 := hO3.s.c0
  have c1 := hO3.s.c1
  clear hO2b b3 hra
  go_wp2_with fail
  clear c0 c1
  refine (withoutB_any n i A m ca f _ (HA.out.below hO3.b) HV.out hi).mono ?_; rintro e w4 ⟨gb, rfl, hgb, hrb, b4⟩
  have lta := a3.below b4 |>.lt
  have a4 := (a3.below b4).alloc (.cells #[.int .i64 n, .slice (some ⟨gb, 0, none⟩) m m] 24)
  have ra4 := (row_below ra3 b4).alloc (.cells #[.int .i64 n, .slice (some ⟨gb, 0, none⟩) m m] 24)
  have hO4 := (hO3.next b4).alloc (.cells #[.int .i64 n, .slice (some ⟨gb, 0, none⟩) m m] 24)
  have d4 := setAt_new w4 n (some ⟨gb, 0, none⟩) m m
  have rb4 := hrb.alloc (.cells #[.int .i64 n, .slice (some ⟨gb, 0, none⟩) m m] 24)
  have x0 := a4.c0
  have x1 := a4.c1
  clear hO3 b4 a3 ra3 hrb
  go_wp2_with fail
  clear x0 x1
  refine (withoutB_any n i (some ⟨ga, 0, none⟩) m m (chg orW f i) _ (row_wds ra4 UW.out) VW.out hi).mono ?_; rintro e w5 ⟨gc, rfl, hgc, hrc, b5⟩
  have a5 := (a4.below b5).alloc (.cells #[.int .i64 n, .slice (some ⟨gc, 0, none⟩) m m] 24)
  have ra5 := (row_below ra4 b5).alloc (.cells #[.int .i64 n, .slice (some ⟨gc, 0, none⟩) m m] 24)
  have d5 := (d4.below b5).alloc (.cells #[.int .i64 n, .slice (some ⟨gc, 0, none⟩) m m] 24)
  have rb5 := (row_below rb4 b5).alloc (.cells #[.int .i64 n, .slice (some ⟨gc, 0, none⟩) m m] 24)
  have hO5 := (hO4.next b5).alloc (.cells #[.int .i64 n, .slice (some ⟨gc, 0, none⟩) m m] 24)
  have e5 := setAt_new w5 n (some ⟨gc, 0, none⟩) m m
  have rc5 := hrc.alloc (.cells #[.int .i64 n, .slice (some ⟨gc, 0, none⟩) m m] 24)
  clear hO4 b5 a4 d4 ra4 rb4 hrc
  go_wp2_with fail
  generalize w3.heap.size = pa at *
  generalize w4.heap.size = pb at *
  generalize w5.heap.size = pc at *
  generalize w5.alloc (.cells #[.int .i64 n, .slice (some ⟨gc, 0, none⟩) m m] 24) = W at *
  have k0 := cell_regrown a5.c0
  have k1 := cell_regrown a5.c1
  have k2 := cell_regrown d5.c0
  have k3 := cell_regrown d5.c1
  have k4 := cell_regrown e5.c0
  have k5 := cell_regrown e5.c1
  have hbi : bt (chg orW f i) i = true := by rw [bt_with]; simp
  have hbo : bt (chg andNot f i) i = false := by rw [bt_without]; simp
  have CA := Lib.hid (fun d os => Calls.regrown_of (has_in n i (some ⟨ga, 0, none⟩) m m (chg orW f i) true (grow (redrawn W d) os) ((row_wds ra5 UW.out).below (below_regrown W d os)) VW.out hi hbi))
  have CB := Lib.hid (fun d os => Calls.regrown_of (has_in n i (some ⟨gb, 0, none⟩) m m (chg andNot f i) false (grow (redrawn W d) os) ((row_wds rb5 UO.out).below (below_regrown W d os)) VO.out hi hbo))
  have CC := Lib.hid (fun d os => Calls.regrown_of (refSame_any n (some ⟨gb, 0, none⟩) (some ⟨gc, 0, none⟩) m m m (chg andNot f i) (chg andNot (chg orW f i) i) m true (grow (redrawn W d) os) ((row_wds rb5 UO.out).below (below_regrown W d os)) ((row_wds rc5 UWO.out).below (below_regrown W d os)) (by omega) (Nat.le_refl _) E1.out (Or.inl ⟨rfl, rfl⟩)))
  have CD := Lib.hid (fun d os => Calls.regrown_of (count_yes n (some ⟨ga, 0, none⟩) m m (chg orW f i) (grow (redrawn W d) os) ((row_wds ra5 UW.out).below (below_regrown W d os)) VW.out))
  have CE := Lib.hid (fun d os => Calls.regrown_of (count_yes n (some ⟨gb, 0, none⟩) m m (chg andNot f i) (grow (redrawn W d) os) ((row_wds rb5 UO.out).below (below_regrown W d os)) VO.out))
  rw [← HCA.out] at CD
  rw [← HCB.out] at CE
  clear hbi hbo
  have hw1 : IntKind.i64.wrap ((cb1 : Int) + 1) = (cb1 : Int) + 1 := IntWalk.i64_in _ (by omega)
  refine wp_region_quiet_below (by kernel_rfl) (by kernel_rfl) ?_
  repeat (first | go_big_quiet_step (first | with_reducible exact CA.out _ _ | with_reducible exact CB.out _ _ | with_reducible exact CC.out _ _ | with_reducible exact CD.out _ _ | with_reducible exact CE.out _ _) | quiet_step (first | with_reducible exact CA.out _ _ | with_reducible exact CB.out _ _ | with_reducible exact CC.out _ _ | with_reducible exact CD.out _ _ | with_reducible exact CE.out _ _))
  refine wpQuiet_nil ?_
  intro _ hw'
  obtain ⟨⟨dq, osq⟩, hw''⟩ := hw'
  subst hw''
  clear k0 k1 k2 k3 k4 k5 CA CB CC CD CE hw1
  have hb6 := below_regrown W dq osq
  have hO6 := hO5.next hb6
  have a6 := a5.below hb6
  have d6 := d5.below hb6
  have ra6 := row_below ra5 hb6
  have rb6 := row_below rb5 hb6
  have c0 := hO6.s.c0
  have c1 := hO6.s.c1
  clear hO5 hb6 a5 d5 e5 ra5 rb5 rc5
  go_wp2_with fail
  clear c0 c1
  refine (has_in n i A m ca f false _ (HA.out.below hO6.b) HV.out hi HB.out).mono ?_; rintro e w7 ⟨rfl, b7⟩
  have hO7 := hO6.next b7
  have a7 := a6.below b7
  have d7 := d6.below b7
  have ra7 := row_below ra6 b7
  have rb7 := row_below rb6 b7
  have x0 := d7.c0
  have x1 := d7.c1
  have c0 := hO7.s.c0
  have c1 := hO7.s.c1
  clear hO6 b7 a6 d6 ra6 rb6
  go_wp2_with fail
  clear c0 c1 x0 x1
  refine (refSame_any n (some ⟨gb, 0, none⟩) A m m ca (chg andNot f i) f m true _ (row_wds rb7 UO.out) (HA.out.below hO7.b) (by omega) (Nat.le_refl _) E2.out (Or.inl ⟨rfl, rfl⟩)).mono ?_; rintro e w8 ⟨rfl, b8⟩
  go_wp2_with fail
  go_ret
  exact ⟨rfl, (hO7.next b8).b⟩
theorem steps_law (N : Int) (A : Option Addr) (m ca : Nat) (f : Nat → Nat) (i : Int) (w : World) (ha : Wds w A m f) (hT : Tab w) :
    Calls Tryd.prog 10 #[.agg #[.int .i64 N, .slice A m ca], .int .i64 i] w fun e w' => e = .returned (.bool true) ∧ Below w.heap.size w w' := by
  rcases big_or (fun _ => m) 1 with hfew | hbig
  · by_cases hv : Vld N m f
    · by_cases h0 : i < 0
      · exact steps_neg N i A m ca f w ha hT hfew hv h0
      · by_cases h1 : N ≤ i
        · exact steps_high N i A m ca f w ha hT hfew hv (by omega) h1
        · obtain ⟨n, rfl⟩ := Int.eq_ofNat_of_zero_le hv.1
          obtain ⟨j, rfl⟩ := Int.eq_ofNat_of_zero_le (show 0 ≤ i by omega)
          cases hb : bt f j
          · exact steps_false n j A m ca f w ha hT hfew hv (by omega) hb
          · exact steps_true n j A m ca f w ha hT hfew hv (by omega) hb
    · exact steps_inv N i A m ca f w ha hT hfew hv
  · exact steps_big N i A m ca w hT hbig
end Go.Proofs.YtijghglppgihmaaDoor
