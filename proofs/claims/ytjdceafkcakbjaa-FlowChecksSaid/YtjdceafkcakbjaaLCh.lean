/- FlowChecks: the law's own text, walked: it returns true for all networks, ends, lists and sets. -/
import Derived.Test.YtjdceafkcakbjaaFBe
import Derived.Test.YtjdceafkcakbjaaFCkB
namespace Go.Proofs.Ytjdceafkcakbjaa
open Go.RowKit Go.Sort
theorem ch_few (N s t Ns : Int) (m c ml cl lb cb : Nat) (A L B : Option Addr) (w : World) (hf : ¬ Few N m) : Calls Try.prog 3 #[.agg #[.int .i64 N, .slice A m c], .int .i64 s, .int .i64 t, .slice L ml cl, .agg #[.int .i64 Ns, .slice B lb cb]] w fun e w' => e = .returned (.bool true) ∧ Below w.heap.size w w' := by
  have HFEW := Lib.hid hf; clear hf
  have n0 := (netAt_new w N A m c).alloc (.cells #[.int .i64 Ns, .slice B lb cb] 28)
  have s0 := setAt_new (w.alloc (.cells #[.int .i64 N, .slice A m c] 24)) Ns B lb cb
  rw [show (w.alloc (.cells #[.int .i64 N, .slice A m c] 24)).heap.size = w.heap.size + 1 by simp] at s0
  have b0 := (below_new w (.cells #[.int .i64 N, .slice A m c] 24)).alloc (below_new w _).size (.cells #[.int .i64 Ns, .slice B lb cb] 28)
  have c0 := n0.c0
  have c1 := n0.c1
  have d0 := s0.c0
  have d1 := s0.c1
  go_enter Try.func3, Try.ntmps3
  go_wp2_with fail
  refine (awake_any _).mono ?_; rintro e w1 ⟨rfl, k1⟩
  have n1 := n0.below k1
  have s1 := s0.below k1
  have b1 := below_next b0 k1
  clear n0 s0 b0 k1 c0 c1 d0 d1
  have c0 := n1.c0
  have c1 := n1.c1
  have d0 := s1.c0
  have d1 := s1.c1
  go_wp2_with fail
  refine (few_any N A m c false _ (no_iff HFEW.out)).mono ?_; rintro e w2 ⟨rfl, k2⟩
  have n2 := n1.below k2
  have s2 := s1.below k2
  have b2 := below_next b1 k2
  clear n1 s1 b1 k2 c0 c1 d0 d1
  have c0 := n2.c0
  have c1 := n2.c1
  have d0 := s2.c0
  have d1 := s2.c1
  go_wp2_with fail
  go_ret
  exact ⟨rfl, b2⟩
theorem ch_big (N s t Ns : Int) (m c ml cl lb cb : Nat) (A L B : Option Addr) (w : World) (hf : Few N m) (hb : 2100 < ml ∨ 20 < lb) : Calls Try.prog 3 #[.agg #[.int .i64 N, .slice A m c], .int .i64 s, .int .i64 t, .slice L ml cl, .agg #[.int .i64 Ns, .slice B lb cb]] w fun e w' => e = .returned (.bool true) ∧ Below w.heap.size w w' := by
  have HFEW := Lib.hid hf; clear hf
  by_cases h1 : 2100 < ml
  · have q1 : decide (2100 < (ml : Int)) = true := decide_eq_true (by omega)
    clear hb
    have n0 := (netAt_new w N A m c).alloc (.cells #[.int .i64 Ns, .slice B lb cb] 28)
    have s0 := setAt_new (w.alloc (.cells #[.int .i64 N, .slice A m c] 24)) Ns B lb cb
    rw [show (w.alloc (.cells #[.int .i64 N, .slice A m c] 24)).heap.size = w.heap.size + 1 by simp] at s0
    have b0 := (below_new w (.cells #[.int .i64 N, .slice A m c] 24)).alloc (below_new w _).size (.cells #[.int .i64 Ns, .slice B lb cb] 28)
    have c0 := n0.c0
    have c1 := n0.c1
    have d0 := s0.c0
    have d1 := s0.c1
    go_enter Try.func3, Try.ntmps3
    go_wp2_with fail
    refine (awake_any _).mono ?_; rintro e w1 ⟨rfl, k1⟩
    have n1 := n0.below k1
    have s1 := s0.below k1
    have b1 := below_next b0 k1
    clear n0 s0 b0 k1 c0 c1 d0 d1
    have c0 := n1.c0
    have c1 := n1.c1
    have d0 := s1.c0
    have d1 := s1.c1
    go_wp2_with fail
    refine (few_any N A m c true _ (yes_iff HFEW.out)).mono ?_; rintro e w2 ⟨rfl, k2⟩
    have n2 := n1.below k2
    have s2 := s1.below k2
    have b2 := below_next b1 k2
    clear n1 s1 b1 k2 c0 c1 d0 d1
    have c0 := n2.c0
    have c1 := n2.c1
    have d0 := s2.c0
    have d1 := s2.c1
    go_wp2_with fail
    go_ret
    exact ⟨rfl, b2⟩
  · have q1 : decide (2100 < (ml : Int)) = false := decide_eq_false (by omega)
    have q2 : decide (20 < (lb : Int)) = true := decide_eq_true (by omega)
    clear hb
    have n0 := (netAt_new w N A m c).alloc (.cells #[.int .i64 Ns, .slice B lb cb] 28)
    have s0 := setAt_new (w.alloc (.cells #[.int .i64 N, .slice A m c] 24)) Ns B lb cb
    rw [show (w.alloc (.cells #[.int .i64 N, .slice A m c] 24)).heap.size = w.heap.size + 1 by simp] at s0
    have b0 := (below_new w (.cells #[.int .i64 N, .slice A m c] 24)).alloc (below_new w _).size (.cells #[.int .i64 Ns, .slice B lb cb] 28)
    have c0 := n0.c0
    have c1 := n0.c1
    have d0 := s0.c0
    have d1 := s0.c1
    go_enter Try.func3, Try.ntmps3
    go_wp2_with fail
    refine (awake_any _).mono ?_; rintro e w1 ⟨rfl, k1⟩
    have n1 := n0.below k1
    have s1 := s0.below k1
    have b1 := below_next b0 k1
    clear n0 s0 b0 k1 c0 c1 d0 d1
    have c0 := n1.c0
    have c1 := n1.c1
    have d0 := s1.c0
    have d1 := s1.c1
    go_wp2_with fail
    refine (few_any N A m c true _ (yes_iff HFEW.out)).mono ?_; rintro e w2 ⟨rfl, k2⟩
    have n2 := n1.below k2
    have s2 := s1.below k2
    have b2 := below_next b1 k2
    clear n1 s1 b1 k2 c0 c1 d0 d1
    have c0 := n2.c0
    have c1 := n2.c1
    have d0 := s2.c0
    have d1 := s2.c1
    go_wp2_with fail
    go_ret
    exact ⟨rfl, b2⟩
theorem ch_true_true (N s t Ns : Int) (m c ml cl lb cb : Nat) (A L B : Option Addr) (w : World) (hf : Few N m) (h1 : ml ≤ 2100) (h2 : lb ≤ 20)
    (V1 : Hid (∀ u, Below w.heap.size w u → Calls Try.prog 12 #[.agg #[.int .i64 N, .slice A m c]] u fun e w' => e = .returned (.bool true) ∧ Below u.heap.size u w'))
    (V2 : Hid (∀ u, Below w.heap.size w u → Calls Try.prog 13 #[.agg #[.int .i64 N, .slice A m c]] u fun e w' => e = .returned (.bool true) ∧ Below u.heap.size u w'))
    (V3 : Hid (∀ u, Below w.heap.size w u → Calls Try.prog 14 #[.agg #[.int .i64 N, .slice A m c], .int .i64 s, .int .i64 t, .slice L ml cl, .agg #[.int .i64 Ns, .slice B lb cb]] u fun e w' => e = .returned (.bool true) ∧ Below u.heap.size u w'))
    (V4 : Hid (∀ u, Below w.heap.size w u → Calls Try.prog 15 #[.agg #[.int .i64 N, .slice A m c], .int .i64 s, .int .i64 t, .slice L ml cl, .agg #[.int .i64 Ns, .slice B lb cb]] u fun e w' => e = .returned (.bool true) ∧ Below u.heap.size u w')) : Calls Try.prog 3 #[.agg #[.int .i64 N, .slice A m c], .int .i64 s, .int .i64 t, .slice L ml cl, .agg #[.int .i64 Ns, .slice B lb cb]] w fun e w' => e = .returned (.bool true) ∧ Below w.heap.size w w' := by
  have HFEW := Lib.hid hf; clear hf
  have q1 : decide (2100 < (ml : Int)) = false := decide_eq_false (by omega)
  have q2 : decide (20 < (lb : Int)) = false := decide_eq_false (by omega)
  clear h1 h2
  have n0 := (netAt_new w N A m c).alloc (.cells #[.int .i64 Ns, .slice B lb cb] 28)
  have s0 := setAt_new (w.alloc (.cells #[.int .i64 N, .slice A m c] 24)) Ns B lb cb
  rw [show (w.alloc (.cells #[.int .i64 N, .slice A m c] 24)).heap.size = w.heap.size + 1 by simp] at s0
  have b0 := (below_new w (.cells #[.int .i64 N, .slice A m c] 24)).alloc (below_new w _).size (.cells #[.int .i64 Ns, .slice B lb cb] 28)
  have c0 := n0.c0
  have c1 := n0.c1
  have d0 := s0.c0
  have d1 := s0.c1
  go_enter Try.func3, Try.ntmps3
  go_wp2_with fail
  refine (awake_any _).mono ?_; rintro e w1 ⟨rfl, k1⟩
  have n1 := n0.below k1
  have s1 := s0.below k1
  have b1 := below_next b0 k1
  clear n0 s0 b0 k1 c0 c1 d0 d1
  have c0 := n1.c0
  have c1 := n1.c1
  have d0 := s1.c0
  have d1 := s1.c1
  go_wp2_with fail
  refine (few_any N A m c true _ (yes_iff HFEW.out)).mono ?_; rintro e w2 ⟨rfl, k2⟩
  have n2 := n1.below k2
  have s2 := s1.below k2
  have b2 := below_next b1 k2
  clear n1 s1 b1 k2 c0 c1 d0 d1
  have c0 := n2.c0
  have c1 := n2.c1
  have d0 := s2.c0
  have d1 := s2.c1
  go_wp2_with fail
  clear c0 c1 d0 d1
  have k0 := cell_regrown n2.c0
  have k1 := cell_regrown n2.c1
  have k2 := cell_regrown s2.c0
  have k3 := cell_regrown s2.c1
  have CA := Lib.hid (fun d os => Calls.regrown_of (V1.out (grow (redrawn w2 d) os) (below_next b2 (below_regrown w2 d os))))
  have CB := Lib.hid (fun d os => Calls.regrown_of (V2.out (grow (redrawn w2 d) os) (below_next b2 (below_regrown w2 d os))))
  have CC := Lib.hid (fun d os => Calls.regrown_of (V3.out (grow (redrawn w2 d) os) (below_next b2 (below_regrown w2 d os))))
  have CD := Lib.hid (fun d os => Calls.regrown_of (V4.out (grow (redrawn w2 d) os) (below_next b2 (below_regrown w2 d os))))
  refine wp_region_quiet_below (by kernel_rfl) (by kernel_rfl) ?_
  repeat (first | go_big_quiet_step (first | with_reducible exact CA.out _ _ | with_reducible exact CB.out _ _ | with_reducible exact CC.out _ _ | with_reducible exact CD.out _ _) | quiet_step (first | with_reducible exact CA.out _ _ | with_reducible exact CB.out _ _ | with_reducible exact CC.out _ _ | with_reducible exact CD.out _ _))
  refine wpQuiet_nil ?_
  intro _ hw'
  obtain ⟨⟨dq, osq⟩, hw''⟩ := hw'
  subst hw''
  clear k0 k1 k2 k3
  have BQ := below_next b2 (below_regrown w2 dq osq)
  clear CA CB CC CD b2
  go_wp2_with fail
  go_ret
  exact ⟨by simp, BQ⟩
theorem ch_true_false (N s t Ns : Int) (m c ml cl lb cb : Nat) (A L B : Option Addr) (w : World) (hf : Few N m) (h1 : ml ≤ 2100) (h2 : lb ≤ 20)
    (V1 : Hid (∀ u, Below w.heap.size w u → Calls Try.prog 12 #[.agg #[.int .i64 N, .slice A m c]] u fun e w' => e = .returned (.bool true) ∧ Below u.heap.size u w'))
    (V2 : Hid (∀ u, Below w.heap.size w u → Calls Try.prog 13 #[.agg #[.int .i64 N, .slice A m c]] u fun e w' => e = .returned (.bool true) ∧ Below u.heap.size u w'))
    (V3 : Hid (∀ u, Below w.heap.size w u → Calls Try.prog 14 #[.agg #[.int .i64 N, .slice A m c], .int .i64 s, .int .i64 t, .slice L ml cl, .agg #[.int .i64 Ns, .slice B lb cb]] u fun e w' => e = .returned (.bool false) ∧ Below u.heap.size u w'))
    (V4 : Hid (∀ u, Below w.heap.size w u → Calls Try.prog 15 #[.agg #[.int .i64 N, .slice A m c], .int .i64 s, .int .i64 t, .slice L ml cl, .agg #[.int .i64 Ns, .slice B lb cb]] u fun e w' => e = .returned (.bool false) ∧ Below u.heap.size u w')) : Calls Try.prog 3 #[.agg #[.int .i64 N, .slice A m c], .int .i64 s, .int .i64 t, .slice L ml cl, .agg #[.int .i64 Ns, .slice B lb cb]] w fun e w' => e = .returned (.bool true) ∧ Below w.heap.size w w' := by
  have HFEW := Lib.hid hf; clear hf
  have q1 : decide (2100 < (ml : Int)) = false := decide_eq_false (by omega)
  have q2 : decide (20 < (lb : Int)) = false := decide_eq_false (by omega)
  clear h1 h2
  have n0 := (netAt_new w N A m c).alloc (.cells #[.int .i64 Ns, .slice B lb cb] 28)
  have s0 := setAt_new (w.alloc (.cells #[.int .i64 N, .slice A m c] 24)) Ns B lb cb
  rw [show (w.alloc (.cells #[.int .i64 N, .slice A m c] 24)).heap.size = w.heap.size + 1 by simp] at s0
  have b0 := (below_new w (.cells #[.int .i64 N, .slice A m c] 24)).alloc (below_new w _).size (.cells #[.int .i64 Ns, .slice B lb cb] 28)
  have c0 := n0.c0
  have c1 := n0.c1
  have d0 := s0.c0
  have d1 := s0.c1
  go_enter Try.func3, Try.ntmps3
  go_wp2_with fail
  refine (awake_any _).mono ?_; rintro e w1 ⟨rfl, k1⟩
  have n1 := n0.below k1
  have s1 := s0.below k1
  have b1 := below_next b0 k1
  clear n0 s0 b0 k1 c0 c1 d0 d1
  have c0 := n1.c0
  have c1 := n1.c1
  have d0 := s1.c0
  have d1 := s1.c1
  go_wp2_with fail
  refine (few_any N A m c true _ (yes_iff HFEW.out)).mono ?_; rintro e w2 ⟨rfl, k2⟩
  have n2 := n1.below k2
  have s2 := s1.below k2
  have b2 := below_next b1 k2
  clear n1 s1 b1 k2 c0 c1 d0 d1
  have c0 := n2.c0
  have c1 := n2.c1
  have d0 := s2.c0
  have d1 := s2.c1
  go_wp2_with fail
  clear c0 c1 d0 d1
  have k0 := cell_regrown n2.c0
  have k1 := cell_regrown n2.c1
  have k2 := cell_regrown s2.c0
  have k3 := cell_regrown s2.c1
  have CA := Lib.hid (fun d os => Calls.regrown_of (V1.out (grow (redrawn w2 d) os) (below_next b2 (below_regrown w2 d os))))
  have CB := Lib.hid (fun d os => Calls.regrown_of (V2.out (grow (redrawn w2 d) os) (below_next b2 (below_regrown w2 d os))))
  have CC := Lib.hid (fun d os => Calls.regrown_of (V3.out (grow (redrawn w2 d) os) (below_next b2 (below_regrown w2 d os))))
  have CD := Lib.hid (fun d os => Calls.regrown_of (V4.out (grow (redrawn w2 d) os) (below_next b2 (below_regrown w2 d os))))
  refine wp_region_quiet_below (by kernel_rfl) (by kernel_rfl) ?_
  repeat (first | go_big_quiet_step (first | with_reducible exact CA.out _ _ | with_reducible exact CB.out _ _ | with_reducible exact CC.out _ _ | with_reducible exact CD.out _ _) | quiet_step (first | with_reducible exact CA.out _ _ | with_reducible exact CB.out _ _ | with_reducible exact CC.out _ _ | with_reducible exact CD.out _ _))
  refine wpQuiet_nil ?_
  intro _ hw'
  obtain ⟨⟨dq, osq⟩, hw''⟩ := hw'
  subst hw''
  clear k0 k1 k2 k3
  have BQ := below_next b2 (below_regrown w2 dq osq)
  clear CA CB CC CD b2
  go_wp2_with fail
  go_ret
  exact ⟨by simp, BQ⟩
theorem ch_false_true (N s t Ns : Int) (m c ml cl lb cb : Nat) (A L B : Option Addr) (w : World) (hf : Few N m) (h1 : ml ≤ 2100) (h2 : lb ≤ 20)
    (V1 : Hid (∀ u, Below w.heap.size w u → Calls Try.prog 12 #[.agg #[.int .i64 N, .slice A m c]] u fun e w' => e = .returned (.bool false) ∧ Below u.heap.size u w'))
    (V2 : Hid (∀ u, Below w.heap.size w u → Calls Try.prog 13 #[.agg #[.int .i64 N, .slice A m c]] u fun e w' => e = .returned (.bool false) ∧ Below u.heap.size u w'))
    (V3 : Hid (∀ u, Below w.heap.size w u → Calls Try.prog 14 #[.agg #[.int .i64 N, .slice A m c], .int .i64 s, .int .i64 t, .slice L ml cl, .agg #[.int .i64 Ns, .slice B lb cb]] u fun e w' => e = .returned (.bool true) ∧ Below u.heap.size u w'))
    (V4 : Hid (∀ u, Below w.heap.size w u → Calls Try.prog 15 #[.agg #[.int .i64 N, .slice A m c], .int .i64 s, .int .i64 t, .slice L ml cl, .agg #[.int .i64 Ns, .slice B lb cb]] u fun e w' => e = .returned (.bool true) ∧ Below u.heap.size u w')) : Calls Try.prog 3 #[.agg #[.int .i64 N, .slice A m c], .int .i64 s, .int .i64 t, .slice L ml cl, .agg #[.int .i64 Ns, .slice B lb cb]] w fun e w' => e = .returned (.bool true) ∧ Below w.heap.size w w' := by
  have HFEW := Lib.hid hf; clear hf
  have q1 : decide (2100 < (ml : Int)) = false := decide_eq_false (by omega)
  have q2 : decide (20 < (lb : Int)) = false := decide_eq_false (by omega)
  clear h1 h2
  have n0 := (netAt_new w N A m c).alloc (.cells #[.int .i64 Ns, .slice B lb cb] 28)
  have s0 := setAt_new (w.alloc (.cells #[.int .i64 N, .slice A m c] 24)) Ns B lb cb
  rw [show (w.alloc (.cells #[.int .i64 N, .slice A m c] 24)).heap.size = w.heap.size + 1 by simp] at s0
  have b0 := (below_new w (.cells #[.int .i64 N, .slice A m c] 24)).alloc (below_new w _).size (.cells #[.int .i64 Ns, .slice B lb cb] 28)
  have c0 := n0.c0
  have c1 := n0.c1
  have d0 := s0.c0
  have d1 := s0.c1
  go_enter Try.func3, Try.ntmps3
  go_wp2_with fail
  refine (awake_any _).mono ?_; rintro e w1 ⟨rfl, k1⟩
  have n1 := n0.below k1
  have s1 := s0.below k1
  have b1 := below_next b0 k1
  clear n0 s0 b0 k1 c0 c1 d0 d1
  have c0 := n1.c0
  have c1 := n1.c1
  have d0 := s1.c0
  have d1 := s1.c1
  go_wp2_with fail
  refine (few_any N A m c true _ (yes_iff HFEW.out)).mono ?_; rintro e w2 ⟨rfl, k2⟩
  have n2 := n1.below k2
  have s2 := s1.below k2
  have b2 := below_next b1 k2
  clear n1 s1 b1 k2 c0 c1 d0 d1
  have c0 := n2.c0
  have c1 := n2.c1
  have d0 := s2.c0
  have d1 := s2.c1
  go_wp2_with fail
  clear c0 c1 d0 d1
  have k0 := cell_regrown n2.c0
  have k1 := cell_regrown n2.c1
  have k2 := cell_regrown s2.c0
  have k3 := cell_regrown s2.c1
  have CA := Lib.hid (fun d os => Calls.regrown_of (V1.out (grow (redrawn w2 d) os) (below_next b2 (below_regrown w2 d os))))
  have CB := Lib.hid (fun d os => Calls.regrown_of (V2.out (grow (redrawn w2 d) os) (below_next b2 (below_regrown w2 d os))))
  have CC := Lib.hid (fun d os => Calls.regrown_of (V3.out (grow (redrawn w2 d) os) (below_next b2 (below_regrown w2 d os))))
  have CD := Lib.hid (fun d os => Calls.regrown_of (V4.out (grow (redrawn w2 d) os) (below_next b2 (below_regrown w2 d os))))
  refine wp_region_quiet_below (by kernel_rfl) (by kernel_rfl) ?_
  repeat (first | go_big_quiet_step (first | with_reducible exact CA.out _ _ | with_reducible exact CB.out _ _ | with_reducible exact CC.out _ _ | with_reducible exact CD.out _ _) | quiet_step (first | with_reducible exact CA.out _ _ | with_reducible exact CB.out _ _ | with_reducible exact CC.out _ _ | with_reducible exact CD.out _ _))
  refine wpQuiet_nil ?_
  intro _ hw'
  obtain ⟨⟨dq, osq⟩, hw''⟩ := hw'
  subst hw''
  clear k0 k1 k2 k3
  have BQ := below_next b2 (below_regrown w2 dq osq)
  clear CA CB CC CD b2
  go_wp2_with fail
  go_ret
  exact ⟨by simp, BQ⟩
theorem ch_false_false (N s t Ns : Int) (m c ml cl lb cb : Nat) (A L B : Option Addr) (w : World) (hf : Few N m) (h1 : ml ≤ 2100) (h2 : lb ≤ 20)
    (V1 : Hid (∀ u, Below w.heap.size w u → Calls Try.prog 12 #[.agg #[.int .i64 N, .slice A m c]] u fun e w' => e = .returned (.bool false) ∧ Below u.heap.size u w'))
    (V2 : Hid (∀ u, Below w.heap.size w u → Calls Try.prog 13 #[.agg #[.int .i64 N, .slice A m c]] u fun e w' => e = .returned (.bool false) ∧ Below u.heap.size u w'))
    (V3 : Hid (∀ u, Below w.heap.size w u → Calls Try.prog 14 #[.agg #[.int .i64 N, .slice A m c], .int .i64 s, .int .i64 t, .slice L ml cl, .agg #[.int .i64 Ns, .slice B lb cb]] u fun e w' => e = .returned (.bool false) ∧ Below u.heap.size u w'))
    (V4 : Hid (∀ u, Below w.heap.size w u → Calls Try.prog 15 #[.agg #[.int .i64 N, .slice A m c], .int .i64 s, .int .i64 t, .slice L ml cl, .agg #[.int .i64 Ns, .slice B lb cb]] u fun e w' => e = .returned (.bool false) ∧ Below u.heap.size u w')) : Calls Try.prog 3 #[.agg #[.int .i64 N, .slice A m c], .int .i64 s, .int .i64 t, .slice L ml cl, .agg #[.int .i64 Ns, .slice B lb cb]] w fun e w' => e = .returned (.bool true) ∧ Below w.heap.size w w' := by
  have HFEW := Lib.hid hf; clear hf
  have q1 : decide (2100 < (ml : Int)) = false := decide_eq_false (by omega)
  have q2 : decide (20 < (lb : Int)) = false := decide_eq_false (by omega)
  clear h1 h2
  have n0 := (netAt_new w N A m c).alloc (.cells #[.int .i64 Ns, .slice B lb cb] 28)
  have s0 := setAt_new (w.alloc (.cells #[.int .i64 N, .slice A m c] 24)) Ns B lb cb
  rw [show (w.alloc (.cells #[.int .i64 N, .slice A m c] 24)).heap.size = w.heap.size + 1 by simp] at s0
  have b0 := (below_new w (.cells #[.int .i64 N, .slice A m c] 24)).alloc (below_new w _).size (.cells #[.int .i64 Ns, .slice B lb cb] 28)
  have c0 := n0.c0
  have c1 := n0.c1
  have d0 := s0.c0
  have d1 := s0.c1
  go_enter Try.func3, Try.ntmps3
  go_wp2_with fail
  refine (awake_any _).mono ?_; rintro e w1 ⟨rfl, k1⟩
  have n1 := n0.below k1
  have s1 := s0.below k1
  have b1 := below_next b0 k1
  clear n0 s0 b0 k1 c0 c1 d0 d1
  have c0 := n1.c0
  have c1 := n1.c1
  have d0 := s1.c0
  have d1 := s1.c1
  go_wp2_with fail
  refine (few_any N A m c true _ (yes_iff HFEW.out)).mono ?_; rintro e w2 ⟨rfl, k2⟩
  have n2 := n1.below k2
  have s2 := s1.below k2
  have b2 := below_next b1 k2
  clear n1 s1 b1 k2 c0 c1 d0 d1
  have c0 := n2.c0
  have c1 := n2.c1
  have d0 := s2.c0
  have d1 := s2.c1
  go_wp2_with fail
  clear c0 c1 d0 d1
  have k0 := cell_regrown n2.c0
  have k1 := cell_regrown n2.c1
  have k2 := cell_regrown s2.c0
  have k3 := cell_regrown s2.c1
  have CA := Lib.hid (fun d os => Calls.regrown_of (V1.out (grow (redrawn w2 d) os) (below_next b2 (below_regrown w2 d os))))
  have CB := Lib.hid (fun d os => Calls.regrown_of (V2.out (grow (redrawn w2 d) os) (below_next b2 (below_regrown w2 d os))))
  have CC := Lib.hid (fun d os => Calls.regrown_of (V3.out (grow (redrawn w2 d) os) (below_next b2 (below_regrown w2 d os))))
  have CD := Lib.hid (fun d os => Calls.regrown_of (V4.out (grow (redrawn w2 d) os) (below_next b2 (below_regrown w2 d os))))
  refine wp_region_quiet_below (by kernel_rfl) (by kernel_rfl) ?_
  repeat (first | go_big_quiet_step (first | with_reducible exact CA.out _ _ | with_reducible exact CB.out _ _ | with_reducible exact CC.out _ _ | with_reducible exact CD.out _ _) | quiet_step (first | with_reducible exact CA.out _ _ | with_reducible exact CB.out _ _ | with_reducible exact CC.out _ _ | with_reducible exact CD.out _ _))
  refine wpQuiet_nil ?_
  intro _ hw'
  obtain ⟨⟨dq, osq⟩, hw''⟩ := hw'
  subst hw''
  clear k0 k1 k2 k3
  have BQ := below_next b2 (below_regrown w2 dq osq)
  clear CA CB CC CD b2
  go_wp2_with fail
  go_ret
  exact ⟨by simp, BQ⟩
theorem ch_law (N s t Ns : Int) (m c ml cl lb cb : Nat) (A L B : Option Addr) (w : World) (E : Nat → EdgeD) (g : Nat → Int) (f : Nat → Nat) (h : Edges w A m E) (hL : Ints w L ml g) (hB : Wds w B lb f) : Calls Try.prog 3 #[.agg #[.int .i64 N, .slice A m c], .int .i64 s, .int .i64 t, .slice L ml cl, .agg #[.int .i64 Ns, .slice B lb cb]] w fun e w' => e = .returned (.bool true) ∧ Below w.heap.size w w' := by
  by_cases hf : Few N m
  · by_cases hb : 2100 < ml ∨ 20 < lb
    · exact ch_big N s t Ns m c ml cl lb cb A L B w hf hb
    · obtain ⟨v, h3, h4⟩ := checks_same N s t Ns m c ml cl lb cb A L B E g f w h hL hB
      by_cases hv : VNet N m E
      · have h1 := fun u (hu : Below w.heap.size w u) => valid_y N A m c E u (h.below hu) hv
        have h2 := fun u (hu : Below w.heap.size w u) => refValid_y N A m c E u (h.below hu) hv
        cases v with
        | true => exact ch_true_true N s t Ns m c ml cl lb cb A L B w hf (by omega) (by omega) (Lib.hid h1) (Lib.hid h2) (Lib.hid h3) (Lib.hid h4)
        | false => exact ch_true_false N s t Ns m c ml cl lb cb A L B w hf (by omega) (by omega) (Lib.hid h1) (Lib.hid h2) (Lib.hid h3) (Lib.hid h4)
      · have h1 := fun u (hu : Below w.heap.size w u) => valid_n2 N A m c E u (h.below hu) hv
        have h2 := fun u (hu : Below w.heap.size w u) => refValid_n N A m c E u (h.below hu) hv
        cases v with
        | true => exact ch_false_true N s t Ns m c ml cl lb cb A L B w hf (by omega) (by omega) (Lib.hid h1) (Lib.hid h2) (Lib.hid h3) (Lib.hid h4)
        | false => exact ch_false_false N s t Ns m c ml cl lb cb A L B w hf (by omega) (by omega) (Lib.hid h1) (Lib.hid h2) (Lib.hid h3) (Lib.hid h4)
  · exact ch_few N s t Ns m c ml cl lb cb A L B w hf
end Go.Proofs.Ytjdceafkcakbjaa
