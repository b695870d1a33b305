/- flow.Check and the reference's Check, walked once for each way through, over their callees' answers. -/
import Derived.Test.YtjdceafkcakbjaaFRefE
namespace Go.Proofs.Ytjdceafkcakbjaa
open Go.RowKit Go.Sort
set_option linter.unusedVariables false
theorem fck1 (N s t Ns : Int) (m c ml cl lb cb : Nat) (A L B : Option Addr)  (w : World)
    (A1 : Hid (∀ u, Below w.heap.size w u → Calls Try.prog 39 #[.agg #[.int .i64 N, .slice A m c], .int .i64 s, .int .i64 t] u fun e w' => e = .returned (.int .i64 1) ∧ Below u.heap.size u w'))
    : Calls Try.prog 14 #[.agg #[.int .i64 N, .slice A m c], .int .i64 s, .int .i64 t, .slice L ml cl, .agg #[.int .i64 Ns, .slice B lb cb]] w fun e w' => e = .returned (.bool false) ∧ Below w.heap.size w w' := by
  have n0 := (netAt_new w N A m c).alloc (.cells #[.int .i64 Ns, .slice B lb cb] 28)
  have s0 := setAt_new (w.alloc (.cells #[.int .i64 N, .slice A m c] 24)) Ns B lb cb
  rw [show (w.alloc (.cells #[.int .i64 N, .slice A m c] 24)).heap.size = w.heap.size + 1 by simp] at s0
  have b0 := (below_new w (.cells #[.int .i64 N, .slice A m c] 24)).alloc (below_new w _).size (.cells #[.int .i64 Ns, .slice B lb cb] 28)
  have c0 := n0.c0
  have c1 := n0.c1
  have d0 := s0.c0
  have d1 := s0.c1
  go_enter Try.func14, Try.ntmps14
  go_wp2_with fail
  refine (A1.out _ b0).mono ?_; rintro e w1 ⟨rfl, k1⟩
  have n1 := n0.below k1
  have s1 := s0.below k1
  have b1 := below_next b0 k1
  clear n0 s0 b0 k1 c0 c1 d0 d1 A1
  have c0 := n1.c0
  have c1 := n1.c1
  have d0 := s1.c0
  have d1 := s1.c1
  go_wp2_with fail
  go_ret
  exact ⟨rfl, b1⟩
theorem fck2 (N s t Ns : Int) (m c ml cl lb cb : Nat) (A L B : Option Addr)  (w : World)
    (A1 : Hid (∀ u, Below w.heap.size w u → Calls Try.prog 39 #[.agg #[.int .i64 N, .slice A m c], .int .i64 s, .int .i64 t] u fun e w' => e = .returned (.int .i64 2) ∧ Below u.heap.size u w'))
    : Calls Try.prog 14 #[.agg #[.int .i64 N, .slice A m c], .int .i64 s, .int .i64 t, .slice L ml cl, .agg #[.int .i64 Ns, .slice B lb cb]] w fun e w' => e = .returned (.bool false) ∧ Below w.heap.size w w' := by
  have n0 := (netAt_new w N A m c).alloc (.cells #[.int .i64 Ns, .slice B lb cb] 28)
  have s0 := setAt_new (w.alloc (.cells #[.int .i64 N, .slice A m c] 24)) Ns B lb cb
  rw [show (w.alloc (.cells #[.int .i64 N, .slice A m c] 24)).heap.size = w.heap.size + 1 by simp] at s0
  have b0 := (below_new w (.cells #[.int .i64 N, .slice A m c] 24)).alloc (below_new w _).size (.cells #[.int .i64 Ns, .slice B lb cb] 28)
  have c0 := n0.c0
  have c1 := n0.c1
  have d0 := s0.c0
  have d1 := s0.c1
  go_enter Try.func14, Try.ntmps14
  go_wp2_with fail
  refine (A1.out _ b0).mono ?_; rintro e w1 ⟨rfl, k1⟩
  have n1 := n0.below k1
  have s1 := s0.below k1
  have b1 := below_next b0 k1
  clear n0 s0 b0 k1 c0 c1 d0 d1 A1
  have c0 := n1.c0
  have c1 := n1.c1
  have d0 := s1.c0
  have d1 := s1.c1
  go_wp2_with fail
  go_ret
  exact ⟨rfl, b1⟩
theorem fck3 (N s t Ns : Int) (m c ml cl lb cb : Nat) (A L B : Option Addr)  (w : World)
    (A1 : Hid (∀ u, Below w.heap.size w u → Calls Try.prog 39 #[.agg #[.int .i64 N, .slice A m c], .int .i64 s, .int .i64 t] u fun e w' => e = .returned (.int .i64 0) ∧ Below u.heap.size u w'))
    (A2 : Hid (∀ u, Below w.heap.size w u → Calls Try.prog 40 #[.agg #[.int .i64 N, .slice A m c], .int .i64 s, .int .i64 t, .slice L ml cl] u fun e w' => e = .returned (.bool false) ∧ Below u.heap.size u w'))
    : Calls Try.prog 14 #[.agg #[.int .i64 N, .slice A m c], .int .i64 s, .int .i64 t, .slice L ml cl, .agg #[.int .i64 Ns, .slice B lb cb]] w fun e w' => e = .returned (.bool false) ∧ Below w.heap.size w w' := by
  have n0 := (netAt_new w N A m c).alloc (.cells #[.int .i64 Ns, .slice B lb cb] 28)
  have s0 := setAt_new (w.alloc (.cells #[.int .i64 N, .slice A m c] 24)) Ns B lb cb
  rw [show (w.alloc (.cells #[.int .i64 N, .slice A m c] 24)).heap.size = w.heap.size + 1 by simp] at s0
  have b0 := (below_new w (.cells #[.int .i64 N, .slice A m c] 24)).alloc (below_new w _).size (.cells #[.int .i64 Ns, .slice B lb cb] 28)
  have c0 := n0.c0
  have c1 := n0.c1
  have d0 := s0.c0
  have d1 := s0.c1
  go_enter Try.func14, Try.ntmps14
  go_wp2_with fail
  refine (A1.out _ b0).mono ?_; rintro e w1 ⟨rfl, k1⟩
  have n1 := n0.below k1
  have s1 := s0.below k1
  have b1 := below_next b0 k1
  clear n0 s0 b0 k1 c0 c1 d0 d1 A1
  have c0 := n1.c0
  have c1 := n1.c1
  have d0 := s1.c0
  have d1 := s1.c1
  go_wp2_with fail
  refine (A2.out _ b1).mono ?_; rintro e w2 ⟨rfl, k2⟩
  have n2 := n1.below k2
  have s2 := s1.below k2
  have b2 := below_next b1 k2
  clear n1 s1 b1 k2 c0 c1 d0 d1 A2
  have c0 := n2.c0
  have c1 := n2.c1
  have d0 := s2.c0
  have d1 := s2.c1
  go_wp2_with fail
  go_ret
  exact ⟨rfl, b2⟩
theorem fck4 (N s t Ns : Int) (m c ml cl lb cb : Nat) (A L B : Option Addr) (hN : (Ns != N) = true) (w : World)
    (A1 : Hid (∀ u, Below w.heap.size w u → Calls Try.prog 39 #[.agg #[.int .i64 N, .slice A m c], .int .i64 s, .int .i64 t] u fun e w' => e = .returned (.int .i64 0) ∧ Below u.heap.size u w'))
    (A2 : Hid (∀ u, Below w.heap.size w u → Calls Try.prog 40 #[.agg #[.int .i64 N, .slice A m c], .int .i64 s, .int .i64 t, .slice L ml cl] u fun e w' => e = .returned (.bool true) ∧ Below u.heap.size u w'))
    : Calls Try.prog 14 #[.agg #[.int .i64 N, .slice A m c], .int .i64 s, .int .i64 t, .slice L ml cl, .agg #[.int .i64 Ns, .slice B lb cb]] w fun e w' => e = .returned (.bool false) ∧ Below w.heap.size w w' := by
  have n0 := (netAt_new w N A m c).alloc (.cells #[.int .i64 Ns, .slice B lb cb] 28)
  have s0 := setAt_new (w.alloc (.cells #[.int .i64 N, .slice A m c] 24)) Ns B lb cb
  rw [show (w.alloc (.cells #[.int .i64 N, .slice A m c] 24)).heap.size = w.heap.size + 1 by simp] at s0
  have b0 := (below_new w (.cells #[.int .i64 N, .slice A m c] 24)).alloc (below_new w _).size (.cells #[.int .i64 Ns, .slice B lb cb] 28)
  have c0 := n0.c0
  have c1 := n0.c1
  have d0 := s0.c0
  have d1 := s0.c1
  go_enter Try.func14, Try.ntmps14
  go_wp2_with fail
  refine (A1.out _ b0).mono ?_; rintro e w1 ⟨rfl, k1⟩
  have n1 := n0.below k1
  have s1 := s0.below k1
  have b1 := below_next b0 k1
  clear n0 s0 b0 k1 c0 c1 d0 d1 A1
  have c0 := n1.c0
  have c1 := n1.c1
  have d0 := s1.c0
  have d1 := s1.c1
  go_wp2_with fail
  refine (A2.out _ b1).mono ?_; rintro e w2 ⟨rfl, k2⟩
  have n2 := n1.below k2
  have s2 := s1.below k2
  have b2 := below_next b1 k2
  clear n1 s1 b1 k2 c0 c1 d0 d1 A2
  have c0 := n2.c0
  have c1 := n2.c1
  have d0 := s2.c0
  have d1 := s2.c1
  go_wp2_with fail
  go_ret
  exact ⟨rfl, b2⟩
theorem fck5 (N s t Ns : Int) (m c ml cl lb cb : Nat) (A L B : Option Addr) (hN : (Ns != N) = false) (w : World)
    (A1 : Hid (∀ u, Below w.heap.size w u → Calls Try.prog 39 #[.agg #[.int .i64 N, .slice A m c], .int .i64 s, .int .i64 t] u fun e w' => e = .returned (.int .i64 0) ∧ Below u.heap.size u w'))
    (A2 : Hid (∀ u, Below w.heap.size w u → Calls Try.prog 40 #[.agg #[.int .i64 N, .slice A m c], .int .i64 s, .int .i64 t, .slice L ml cl] u fun e w' => e = .returned (.bool true) ∧ Below u.heap.size u w'))
    (A3 : Hid (∀ u, Below w.heap.size w u → Calls Try.prog 41 #[.agg #[.int .i64 Ns, .slice B lb cb], .int .i64 s] u fun e w' => e = .returned (.bool false) ∧ Below u.heap.size u w'))
    : Calls Try.prog 14 #[.agg #[.int .i64 N, .slice A m c], .int .i64 s, .int .i64 t, .slice L ml cl, .agg #[.int .i64 Ns, .slice B lb cb]] w fun e w' => e = .returned (.bool false) ∧ Below w.heap.size w w' := by
  have n0 := (netAt_new w N A m c).alloc (.cells #[.int .i64 Ns, .slice B lb cb] 28)
  have s0 := setAt_new (w.alloc (.cells #[.int .i64 N, .slice A m c] 24)) Ns B lb cb
  rw [show (w.alloc (.cells #[.int .i64 N, .slice A m c] 24)).heap.size = w.heap.size + 1 by simp] at s0
  have b0 := (below_new w (.cells #[.int .i64 N, .slice A m c] 24)).alloc (below_new w _).size (.cells #[.int .i64 Ns, .slice B lb cb] 28)
  have c0 := n0.c0
  have c1 := n0.c1
  have d0 := s0.c0
  have d1 := s0.c1
  go_enter Try.func14, Try.ntmps14
  go_wp2_with fail
  refine (A1.out _ b0).mono ?_; rintro e w1 ⟨rfl, k1⟩
  have n1 := n0.below k1
  have s1 := s0.below k1
  have b1 := below_next b0 k1
  clear n0 s0 b0 k1 c0 c1 d0 d1 A1
  have c0 := n1.c0
  have c1 := n1.c1
  have d0 := s1.c0
  have d1 := s1.c1
  go_wp2_with fail
  refine (A2.out _ b1).mono ?_; rintro e w2 ⟨rfl, k2⟩
  have n2 := n1.below k2
  have s2 := s1.below k2
  have b2 := below_next b1 k2
  clear n1 s1 b1 k2 c0 c1 d0 d1 A2
  have c0 := n2.c0
  have c1 := n2.c1
  have d0 := s2.c0
  have d1 := s2.c1
  go_wp2_with fail
  refine (A3.out _ b2).mono ?_; rintro e w3 ⟨rfl, k3⟩
  have n3 := n2.below k3
  have s3 := s2.below k3
  have b3 := below_next b2 k3
  clear n2 s2 b2 k3 c0 c1 d0 d1 A3
  have c0 := n3.c0
  have c1 := n3.c1
  have d0 := s3.c0
  have d1 := s3.c1
  go_wp2_with fail
  go_ret
  exact ⟨rfl, b3⟩
theorem fck7 (N s t Ns : Int) (m c ml cl lb cb : Nat) (A L B : Option Addr) (hN : (Ns != N) = false) (w : World)
    (A1 : Hid (∀ u, Below w.heap.size w u → Calls Try.prog 39 #[.agg #[.int .i64 N, .slice A m c], .int .i64 s, .int .i64 t] u fun e w' => e = .returned (.int .i64 0) ∧ Below u.heap.size u w'))
    (A2 : Hid (∀ u, Below w.heap.size w u → Calls Try.prog 40 #[.agg #[.int .i64 N, .slice A m c], .int .i64 s, .int .i64 t, .slice L ml cl] u fun e w' => e = .returned (.bool true) ∧ Below u.heap.size u w'))
    (A3 : Hid (∀ u, Below w.heap.size w u → Calls Try.prog 41 #[.agg #[.int .i64 Ns, .slice B lb cb], .int .i64 s] u fun e w' => e = .returned (.bool true) ∧ Below u.heap.size u w'))
    (A4 : Hid (∀ u, Below w.heap.size w u → Calls Try.prog 41 #[.agg #[.int .i64 Ns, .slice B lb cb], .int .i64 t] u fun e w' => e = .returned (.bool true) ∧ Below u.heap.size u w'))
    : Calls Try.prog 14 #[.agg #[.int .i64 N, .slice A m c], .int .i64 s, .int .i64 t, .slice L ml cl, .agg #[.int .i64 Ns, .slice B lb cb]] w fun e w' => e = .returned (.bool false) ∧ Below w.heap.size w w' := by
  have n0 := (netAt_new w N A m c).alloc (.cells #[.int .i64 Ns, .slice B lb cb] 28)
  have s0 := setAt_new (w.alloc (.cells #[.int .i64 N, .slice A m c] 24)) Ns B lb cb
  rw [show (w.alloc (.cells #[.int .i64 N, .slice A m c] 24)).heap.size = w.heap.size + 1 by simp] at s0
  have b0 := (below_new w (.cells #[.int .i64 N, .slice A m c] 24)).alloc (below_new w _).size (.cells #[.int .i64 Ns, .slice B lb cb] 28)
  have c0 := n0.c0
  have c1 := n0.c1
  have d0 := s0.c0
  have d1 := s0.c1
  go_enter Try.func14, Try.ntmps14
  go_wp2_with fail
  refine (A1.out _ b0).mono ?_; rintro e w1 ⟨rfl, k1⟩
  have n1 := n0.below k1
  have s1 := s0.below k1
  have b1 := below_next b0 k1
  clear n0 s0 b0 k1 c0 c1 d0 d1 A1
  have c0 := n1.c0
  have c1 := n1.c1
  have d0 := s1.c0
  have d1 := s1.c1
  go_wp2_with fail
  refine (A2.out _ b1).mono ?_; rintro e w2 ⟨rfl, k2⟩
  have n2 := n1.below k2
  have s2 := s1.below k2
  have b2 := below_next b1 k2
  clear n1 s1 b1 k2 c0 c1 d0 d1 A2
  have c0 := n2.c0
  have c1 := n2.c1
  have d0 := s2.c0
  have d1 := s2.c1
  go_wp2_with fail
  refine (A3.out _ b2).mono ?_; rintro e w3 ⟨rfl, k3⟩
  have n3 := n2.below k3
  have s3 := s2.below k3
  have b3 := below_next b2 k3
  clear n2 s2 b2 k3 c0 c1 d0 d1 A3
  have c0 := n3.c0
  have c1 := n3.c1
  have d0 := s3.c0
  have d1 := s3.c1
  go_wp2_with fail
  refine (A4.out _ b3).mono ?_; rintro e w4 ⟨rfl, k4⟩
  have n4 := n3.below k4
  have s4 := s3.below k4
  have b4 := below_next b3 k4
  clear n3 s3 b3 k4 c0 c1 d0 d1 A4
  have c0 := n4.c0
  have c1 := n4.c1
  have d0 := s4.c0
  have d1 := s4.c1
  go_wp2_with fail
  go_ret
  exact ⟨rfl, b4⟩
theorem fck8 (N s t Ns : Int) (m c ml cl lb cb : Nat) (A L B : Option Addr) (hN : (Ns != N) = false) (x y : Int) (w : World)
    (A1 : Hid (∀ u, Below w.heap.size w u → Calls Try.prog 39 #[.agg #[.int .i64 N, .slice A m c], .int .i64 s, .int .i64 t] u fun e w' => e = .returned (.int .i64 0) ∧ Below u.heap.size u w'))
    (A2 : Hid (∀ u, Below w.heap.size w u → Calls Try.prog 40 #[.agg #[.int .i64 N, .slice A m c], .int .i64 s, .int .i64 t, .slice L ml cl] u fun e w' => e = .returned (.bool true) ∧ Below u.heap.size u w'))
    (A3 : Hid (∀ u, Below w.heap.size w u → Calls Try.prog 41 #[.agg #[.int .i64 Ns, .slice B lb cb], .int .i64 s] u fun e w' => e = .returned (.bool true) ∧ Below u.heap.size u w'))
    (A4 : Hid (∀ u, Below w.heap.size w u → Calls Try.prog 41 #[.agg #[.int .i64 Ns, .slice B lb cb], .int .i64 t] u fun e w' => e = .returned (.bool false) ∧ Below u.heap.size u w'))
    (A5 : Hid (∀ u, Below w.heap.size w u → Calls Try.prog 42 #[.agg #[.int .i64 N, .slice A m c], .int .i64 s, .slice L ml cl] u fun e w' => e = .returned (.int .i64 x) ∧ Below u.heap.size u w'))
    (A6 : Hid (∀ u, Below w.heap.size w u → Calls Try.prog 43 #[.agg #[.int .i64 N, .slice A m c], .agg #[.int .i64 Ns, .slice B lb cb]] u fun e w' => e = .returned (.int .i64 y) ∧ Below u.heap.size u w'))
    : Calls Try.prog 14 #[.agg #[.int .i64 N, .slice A m c], .int .i64 s, .int .i64 t, .slice L ml cl, .agg #[.int .i64 Ns, .slice B lb cb]] w fun e w' => e = .returned (.bool (x == y)) ∧ Below w.heap.size w w' := by
  have n0 := (netAt_new w N A m c).alloc (.cells #[.int .i64 Ns, .slice B lb cb] 28)
  have s0 := setAt_new (w.alloc (.cells #[.int .i64 N, .slice A m c] 24)) Ns B lb cb
  rw [show (w.alloc (.cells #[.int .i64 N, .slice A m c] 24)).heap.size = w.heap.size + 1 by simp] at s0
  have b0 := (below_new w (.cells #[.int .i64 N, .slice A m c] 24)).alloc (below_new w _).size (.cells #[.int .i64 Ns, .slice B lb cb] 28)
  have c0 := n0.c0
  have c1 := n0.c1
  have d0 := s0.c0
  have d1 := s0.c1
  go_enter Try.func14, Try.ntmps14
  go_wp2_with fail
  refine (A1.out _ b0).mono ?_; rintro e w1 ⟨rfl, k1⟩
  have n1 := n0.below k1
  have s1 := s0.below k1
  have b1 := below_next b0 k1
  clear n0 s0 b0 k1 c0 c1 d0 d1 A1
  have c0 := n1.c0
  have c1 := n1.c1
  have d0 := s1.c0
  have d1 := s1.c1
  go_wp2_with fail
  refine (A2.out _ b1).mono ?_; rintro e w2 ⟨rfl, k2⟩
  have n2 := n1.below k2
  have s2 := s1.below k2
  have b2 := below_next b1 k2
  clear n1 s1 b1 k2 c0 c1 d0 d1 A2
  have c0 := n2.c0
  have c1 := n2.c1
  have d0 := s2.c0
  have d1 := s2.c1
  go_wp2_with fail
  refine (A3.out _ b2).mono ?_; rintro e w3 ⟨rfl, k3⟩
  have n3 := n2.below k3
  have s3 := s2.below k3
  have b3 := below_next b2 k3
  clear n2 s2 b2 k3 c0 c1 d0 d1 A3
  have c0 := n3.c0
  have c1 := n3.c1
  have d0 := s3.c0
  have d1 := s3.c1
  go_wp2_with fail
  refine (A4.out _ b3).mono ?_; rintro e w4 ⟨rfl, k4⟩
  have n4 := n3.below k4
  have s4 := s3.below k4
  have b4 := below_next b3 k4
  clear n3 s3 b3 k4 c0 c1 d0 d1 A4
  have c0 := n4.c0
  have c1 := n4.c1
  have d0 := s4.c0
  have d1 := s4.c1
  clear c0 c1 d0 d1
  go_wp2_with fail
  have k0 := cell_regrown n4.c0
  have k1 := cell_regrown n4.c1
  have k2 := cell_regrown s4.c0
  have k3 := cell_regrown s4.c1
  have CA := Lib.hid (fun d os => Calls.regrown_of (A5.out (grow (redrawn w4 d) os) (below_next b4 (below_regrown w4 d os))))
  have CB := Lib.hid (fun d os => Calls.regrown_of (A6.out (grow (redrawn w4 d) os) (below_next b4 (below_regrown w4 d os))))
  refine wp_region_quiet_below (by kernel_rfl) (by kernel_rfl) ?_
  repeat (first | go_big_quiet_step (first | with_reducible exact CA.out _ _ | with_reducible exact CB.out _ _) | quiet_step (first | with_reducible exact CA.out _ _ | with_reducible exact CB.out _ _))
  refine wpQuiet_nil ?_
  intro _ hw'
  obtain ⟨⟨dq, osq⟩, hw''⟩ := hw'
  subst hw''
  clear k0 k1 k2 k3
  have BQ := below_next b4 (below_regrown w4 dq osq)
  clear CA CB b4
  go_wp2_with fail
  go_ret
  exact ⟨by simp, BQ⟩
theorem rck1 (N s t Ns : Int) (m c ml cl lb cb : Nat) (A L B : Option Addr)  (w : World)
    (R1 : Hid (∀ u, Below w.heap.size w u → Calls Try.prog 13 #[.agg #[.int .i64 N, .slice A m c]] u fun e w' => e = .returned (.bool false) ∧ Below u.heap.size u w'))
    : Calls Try.prog 15 #[.agg #[.int .i64 N, .slice A m c], .int .i64 s, .int .i64 t, .slice L ml cl, .agg #[.int .i64 Ns, .slice B lb cb]] w fun e w' => e = .returned (.bool false) ∧ Below w.heap.size w w' := by
  have n0 := (netAt_new w N A m c).alloc (.cells #[.int .i64 Ns, .slice B lb cb] 28)
  have s0 := setAt_new (w.alloc (.cells #[.int .i64 N, .slice A m c] 24)) Ns B lb cb
  rw [show (w.alloc (.cells #[.int .i64 N, .slice A m c] 24)).heap.size = w.heap.size + 1 by simp] at s0
  have b0 := (below_new w (.cells #[.int .i64 N, .slice A m c] 24)).alloc (below_new w _).size (.cells #[.int .i64 Ns, .slice B lb cb] 28)
  have c0 := n0.c0
  have c1 := n0.c1
  have d0 := s0.c0
  have d1 := s0.c1
  go_enter Try.func15, Try.ntmps15
  go_wp2_with fail
  refine (R1.out _ b0).mono ?_; rintro e w1 ⟨rfl, k1⟩
  have n1 := n0.below k1
  have s1 := s0.below k1
  have b1 := below_next b0 k1
  clear n0 s0 b0 k1 c0 c1 d0 d1 R1
  have c0 := n1.c0
  have c1 := n1.c1
  have d0 := s1.c0
  have d1 := s1.c1
  go_wp2_with fail
  go_ret
  exact ⟨rfl, b1⟩
theorem rck2 (N s t Ns : Int) (m c ml cl lb cb : Nat) (A L B : Option Addr)  (w : World)
    (R1 : Hid (∀ u, Below w.heap.size w u → Calls Try.prog 13 #[.agg #[.int .i64 N, .slice A m c]] u fun e w' => e = .returned (.bool true) ∧ Below u.heap.size u w'))
    (R2 : Hid (∀ u, Below w.heap.size w u → Calls Try.prog 17 #[.agg #[.int .i64 N, .slice A m c], .int .i64 s, .int .i64 t] u fun e w' => e = .returned (.bool false) ∧ Below u.heap.size u w'))
    : Calls Try.prog 15 #[.agg #[.int .i64 N, .slice A m c], .int .i64 s, .int .i64 t, .slice L ml cl, .agg #[.int .i64 Ns, .slice B lb cb]] w fun e w' => e = .returned (.bool false) ∧ Below w.heap.size w w' := by
  have n0 := (netAt_new w N A m c).alloc (.cells #[.int .i64 Ns, .slice B lb cb] 28)
  have s0 := setAt_new (w.alloc (.cells #[.int .i64 N, .slice A m c] 24)) Ns B lb cb
  rw [show (w.alloc (.cells #[.int .i64 N, .slice A m c] 24)).heap.size = w.heap.size + 1 by simp] at s0
  have b0 := (below_new w (.cells #[.int .i64 N, .slice A m c] 24)).alloc (below_new w _).size (.cells #[.int .i64 Ns, .slice B lb cb] 28)
  have c0 := n0.c0
  have c1 := n0.c1
  have d0 := s0.c0
  have d1 := s0.c1
  go_enter Try.func15, Try.ntmps15
  go_wp2_with fail
  refine (R1.out _ b0).mono ?_; rintro e w1 ⟨rfl, k1⟩
  have n1 := n0.below k1
  have s1 := s0.below k1
  have b1 := below_next b0 k1
  clear n0 s0 b0 k1 c0 c1 d0 d1 R1
  have c0 := n1.c0
  have c1 := n1.c1
  have d0 := s1.c0
  have d1 := s1.c1
  go_wp2_with fail
  refine (R2.out _ b1).mono ?_; rintro e w2 ⟨rfl, k2⟩
  have n2 := n1.below k2
  have s2 := s1.below k2
  have b2 := below_next b1 k2
  clear n1 s1 b1 k2 c0 c1 d0 d1 R2
  have c0 := n2.c0
  have c1 := n2.c1
  have d0 := s2.c0
  have d1 := s2.c1
  go_wp2_with fail
  go_ret
  exact ⟨rfl, b2⟩
theorem rck3 (N s t Ns : Int) (m c ml cl lb cb : Nat) (A L B : Option Addr)  (w : World)
    (R1 : Hid (∀ u, Below w.heap.size w u → Calls Try.prog 13 #[.agg #[.int .i64 N, .slice A m c]] u fun e w' => e = .returned (.bool true) ∧ Below u.heap.size u w'))
    (R2 : Hid (∀ u, Below w.heap.size w u → Calls Try.prog 17 #[.agg #[.int .i64 N, .slice A m c], .int .i64 s, .int .i64 t] u fun e w' => e = .returned (.bool true) ∧ Below u.heap.size u w'))
    (R3 : Hid (∀ u, Below w.heap.size w u → Calls Try.prog 18 #[.agg #[.int .i64 N, .slice A m c], .int .i64 s, .int .i64 t, .slice L ml cl] u fun e w' => e = .returned (.bool false) ∧ Below u.heap.size u w'))
    : Calls Try.prog 15 #[.agg #[.int .i64 N, .slice A m c], .int .i64 s, .int .i64 t, .slice L ml cl, .agg #[.int .i64 Ns, .slice B lb cb]] w fun e w' => e = .returned (.bool false) ∧ Below w.heap.size w w' := by
  have n0 := (netAt_new w N A m c).alloc (.cells #[.int .i64 Ns, .slice B lb cb] 28)
  have s0 := setAt_new (w.alloc (.cells #[.int .i64 N, .slice A m c] 24)) Ns B lb cb
  rw [show (w.alloc (.cells #[.int .i64 N, .slice A m c] 24)).heap.size = w.heap.size + 1 by simp] at s0
  have b0 := (below_new w (.cells #[.int .i64 N, .slice A m c] 24)).alloc (below_new w _).size (.cells #[.int .i64 Ns, .slice B lb cb] 28)
  have c0 := n0.c0
  have c1 := n0.c1
  have d0 := s0.c0
  have d1 := s0.c1
  go_enter Try.func15, Try.ntmps15
  go_wp2_with fail
  refine (R1.out _ b0).mono ?_; rintro e w1 ⟨rfl, k1⟩
  have n1 := n0.below k1
  have s1 := s0.below k1
  have b1 := below_next b0 k1
  clear n0 s0 b0 k1 c0 c1 d0 d1 R1
  have c0 := n1.c0
  have c1 := n1.c1
  have d0 := s1.c0
  have d1 := s1.c1
  go_wp2_with fail
  refine (R2.out _ b1).mono ?_; rintro e w2 ⟨rfl, k2⟩
  have n2 := n1.below k2
  have s2 := s1.below k2
  have b2 := below_next b1 k2
  clear n1 s1 b1 k2 c0 c1 d0 d1 R2
  have c0 := n2.c0
  have c1 := n2.c1
  have d0 := s2.c0
  have d1 := s2.c1
  go_wp2_with fail
  refine (R3.out _ b2).mono ?_; rintro e w3 ⟨rfl, k3⟩
  have n3 := n2.below k3
  have s3 := s2.below k3
  have b3 := below_next b2 k3
  clear n2 s2 b2 k3 c0 c1 d0 d1 R3
  have c0 := n3.c0
  have c1 := n3.c1
  have d0 := s3.c0
  have d1 := s3.c1
  go_wp2_with fail
  go_ret
  exact ⟨rfl, b3⟩
theorem rck4 (N s t Ns : Int) (m c ml cl lb cb : Nat) (A L B : Option Addr)  (w : World)
    (R1 : Hid (∀ u, Below w.heap.size w u → Calls Try.prog 13 #[.agg #[.int .i64 N, .slice A m c]] u fun e w' => e = .returned (.bool true) ∧ Below u.heap.size u w'))
    (R2 : Hid (∀ u, Below w.heap.size w u → Calls Try.prog 17 #[.agg #[.int .i64 N, .slice A m c], .int .i64 s, .int .i64 t] u fun e w' => e = .returned (.bool true) ∧ Below u.heap.size u w'))
    (R3 : Hid (∀ u, Below w.heap.size w u → Calls Try.prog 18 #[.agg #[.int .i64 N, .slice A m c], .int .i64 s, .int .i64 t, .slice L ml cl] u fun e w' => e = .returned (.bool true) ∧ Below u.heap.size u w'))
    (R4 : Hid (∀ u, Below w.heap.size w u → Calls Try.prog 44 #[.agg #[.int .i64 Ns, .slice B lb cb], .int .i64 N] u fun e w' => e = .returned (.bool false) ∧ Below u.heap.size u w'))
    : Calls Try.prog 15 #[.agg #[.int .i64 N, .slice A m c], .int .i64 s, .int .i64 t, .slice L ml cl, .agg #[.int .i64 Ns, .slice B lb cb]] w fun e w' => e = .returned (.bool false) ∧ Below w.heap.size w w' := by
  have n0 := (netAt_new w N A m c).alloc (.cells #[.int .i64 Ns, .slice B lb cb] 28)
  have s0 := setAt_new (w.alloc (.cells #[.int .i64 N, .slice A m c] 24)) Ns B lb cb
  rw [show (w.alloc (.cells #[.int .i64 N, .slice A m c] 24)).heap.size = w.heap.size + 1 by simp] at s0
  have b0 := (below_new w (.cells #[.int .i64 N, .slice A m c] 24)).alloc (below_new w _).size (.cells #[.int .i64 Ns, .slice B lb cb] 28)
  have c0 := n0.c0
  have c1 := n0.c1
  have d0 := s0.c0
  have d1 := s0.c1
  go_enter Try.func15, Try.ntmps15
  go_wp2_with fail
  refine (R1.out _ b0).mono ?_; rintro e w1 ⟨rfl, k1⟩
  have n1 := n0.below k1
  have s1 := s0.below k1
  have b1 := below_next b0 k1
  clear n0 s0 b0 k1 c0 c1 d0 d1 R1
  have c0 := n1.c0
  have c1 := n1.c1
  have d0 := s1.c0
  have d1 := s1.c1
  go_wp2_with fail
  refine (R2.out _ b1).mono ?_; rintro e w2 ⟨rfl, k2⟩
  have n2 := n1.below k2
  have s2 := s1.below k2
  have b2 := below_next b1 k2
  clear n1 s1 b1 k2 c0 c1 d0 d1 R2
  have c0 := n2.c0
  have c1 := n2.c1
  have d0 := s2.c0
  have d1 := s2.c1
  go_wp2_with fail
  refine (R3.out _ b2).mono ?_; rintro e w3 ⟨rfl, k3⟩
  have n3 := n2.below k3
  have s3 := s2.below k3
  have b3 := below_next b2 k3
  clear n2 s2 b2 k3 c0 c1 d0 d1 R3
  have c0 := n3.c0
  have c1 := n3.c1
  have d0 := s3.c0
  have d1 := s3.c1
  go_wp2_with fail
  refine (R4.out _ b3).mono ?_; rintro e w4 ⟨rfl, k4⟩
  have n4 := n3.below k4
  have s4 := s3.below k4
  have b4 := below_next b3 k4
  clear n3 s3 b3 k4 c0 c1 d0 d1 R4
  have c0 := n4.c0
  have c1 := n4.c1
  have d0 := s4.c0
  have d1 := s4.c1
  go_wp2_with fail
  go_ret
  exact ⟨rfl, b4⟩
theorem rck6 (N s t Ns : Int) (m c ml cl lb cb : Nat) (A L B : Option Addr)  (w : World)
    (R1 : Hid (∀ u, Below w.heap.size w u → Calls Try.prog 13 #[.agg #[.int .i64 N, .slice A m c]] u fun e w' => e = .returned (.bool true) ∧ Below u.heap.size u w'))
    (R2 : Hid (∀ u, Below w.heap.size w u → Calls Try.prog 17 #[.agg #[.int .i64 N, .slice A m c], .int .i64 s, .int .i64 t] u fun e w' => e = .returned (.bool true) ∧ Below u.heap.size u w'))
    (R3 : Hid (∀ u, Below w.heap.size w u → Calls Try.prog 18 #[.agg #[.int .i64 N, .slice A m c], .int .i64 s, .int .i64 t, .slice L ml cl] u fun e w' => e = .returned (.bool true) ∧ Below u.heap.size u w'))
    (R4 : Hid (∀ u, Below w.heap.size w u → Calls Try.prog 44 #[.agg #[.int .i64 Ns, .slice B lb cb], .int .i64 N] u fun e w' => e = .returned (.bool true) ∧ Below u.heap.size u w'))
    (R5 : Hid (∀ u, Below w.heap.size w u → Calls Try.prog 45 #[.agg #[.int .i64 Ns, .slice B lb cb], .int .i64 s] u fun e w' => e = .returned (.bool false) ∧ Below u.heap.size u w'))
    : Calls Try.prog 15 #[.agg #[.int .i64 N, .slice A m c], .int .i64 s, .int .i64 t, .slice L ml cl, .agg #[.int .i64 Ns, .slice B lb cb]] w fun e w' => e = .returned (.bool false) ∧ Below w.heap.size w w' := by
  have n0 := (netAt_new w N A m c).alloc (.cells #[.int .i64 Ns, .slice B lb cb] 28)
  have s0 := setAt_new (w.alloc (.cells #[.int .i64 N, .slice A m c] 24)) Ns B lb cb
  rw [show (w.alloc (.cells #[.int .i64 N, .slice A m c] 24)).heap.size = w.heap.size + 1 by simp] at s0
  have b0 := (below_new w (.cells #[.int .i64 N, .slice A m c] 24)).alloc (below_new w _).size (.cells #[.int .i64 Ns, .slice B lb cb] 28)
  have c0 := n0.c0
  have c1 := n0.c1
  have d0 := s0.c0
  have d1 := s0.c1
  go_enter Try.func15, Try.ntmps15
  go_wp2_with fail
  refine (R1.out _ b0).mono ?_; rintro e w1 ⟨rfl, k1⟩
  have n1 := n0.below k1
  have s1 := s0.below k1
  have b1 := below_next b0 k1
  clear n0 s0 b0 k1 c0 c1 d0 d1 R1
  have c0 := n1.c0
  have c1 := n1.c1
  have d0 := s1.c0
  have d1 := s1.c1
  go_wp2_with fail
  refine (R2.out _ b1).mono ?_; rintro e w2 ⟨rfl, k2⟩
  have n2 := n1.below k2
  have s2 := s1.below k2
  have b2 := below_next b1 k2
  clear n1 s1 b1 k2 c0 c1 d0 d1 R2
  have c0 := n2.c0
  have c1 := n2.c1
  have d0 := s2.c0
  have d1 := s2.c1
  go_wp2_with fail
  refine (R3.out _ b2).mono ?_; rintro e w3 ⟨rfl, k3⟩
  have n3 := n2.below k3
  have s3 := s2.below k3
  have b3 := below_next b2 k3
  clear n2 s2 b2 k3 c0 c1 d0 d1 R3
  have c0 := n3.c0
  have c1 := n3.c1
  have d0 := s3.c0
  have d1 := s3.c1
  go_wp2_with fail
  refine (R4.out _ b3).mono ?_; rintro e w4 ⟨rfl, k4⟩
  have n4 := n3.below k4
  have s4 := s3.below k4
  have b4 := below_next b3 k4
  clear n3 s3 b3 k4 c0 c1 d0 d1 R4
  have c0 := n4.c0
  have c1 := n4.c1
  have d0 := s4.c0
  have d1 := s4.c1
  go_wp2_with fail
  refine (R5.out _ b4).mono ?_; rintro e w5 ⟨rfl, k5⟩
  have n5 := n4.below k5
  have s5 := s4.below k5
  have b5 := below_next b4 k5
  clear n4 s4 b4 k5 c0 c1 d0 d1 R5
  have c0 := n5.c0
  have c1 := n5.c1
  have d0 := s5.c0
  have d1 := s5.c1
  go_wp2_with fail
  go_ret
  exact ⟨rfl, b5⟩
theorem rck7 (N s t Ns : Int) (m c ml cl lb cb : Nat) (A L B : Option Addr)  (w : World)
    (R1 : Hid (∀ u, Below w.heap.size w u → Calls Try.prog 13 #[.agg #[.int .i64 N, .slice A m c]] u fun e w' => e = .returned (.bool true) ∧ Below u.heap.size u w'))
    (R2 : Hid (∀ u, Below w.heap.size w u → Calls Try.prog 17 #[.agg #[.int .i64 N, .slice A m c], .int .i64 s, .int .i64 t] u fun e w' => e = .returned (.bool true) ∧ Below u.heap.size u w'))
    (R3 : Hid (∀ u, Below w.heap.size w u → Calls Try.prog 18 #[.agg #[.int .i64 N, .slice A m c], .int .i64 s, .int .i64 t, .slice L ml cl] u fun e w' => e = .returned (.bool true) ∧ Below u.heap.size u w'))
    (R4 : Hid (∀ u, Below w.heap.size w u → Calls Try.prog 44 #[.agg #[.int .i64 Ns, .slice B lb cb], .int .i64 N] u fun e w' => e = .returned (.bool true) ∧ Below u.heap.size u w'))
    (R5 : Hid (∀ u, Below w.heap.size w u → Calls Try.prog 45 #[.agg #[.int .i64 Ns, .slice B lb cb], .int .i64 s] u fun e w' => e = .returned (.bool true) ∧ Below u.heap.size u w'))
    (R6 : Hid (∀ u, Below w.heap.size w u → Calls Try.prog 45 #[.agg #[.int .i64 Ns, .slice B lb cb], .int .i64 t] u fun e w' => e = .returned (.bool true) ∧ Below u.heap.size u w'))
    : Calls Try.prog 15 #[.agg #[.int .i64 N, .slice A m c], .int .i64 s, .int .i64 t, .slice L ml cl, .agg #[.int .i64 Ns, .slice B lb cb]] w fun e w' => e = .returned (.bool false) ∧ Below w.heap.size w w' := by
  have n0 := (netAt_new w N A m c).alloc (.cells #[.int .i64 Ns, .slice B lb cb] 28)
  have s0 := setAt_new (w.alloc (.cells #[.int .i64 N, .slice A m c] 24)) Ns B lb cb
  rw [show (w.alloc (.cells #[.int .i64 N, .slice A m c] 24)).heap.size = w.heap.size + 1 by simp] at s0
  have b0 := (below_new w (.cells #[.int .i64 N, .slice A m c] 24)).alloc (below_new w _).size (.cells #[.int .i64 Ns, .slice B lb cb] 28)
  have c0 := n0.c0
  have c1 := n0.c1
  have d0 := s0.c0
  have d1 := s0.c1
  go_enter Try.func15, Try.ntmps15
  go_wp2_with fail
  refine (R1.out _ b0).mono ?_; rintro e w1 ⟨rfl, k1⟩
  have n1 := n0.below k1
  have s1 := s0.below k1
  have b1 := below_next b0 k1
  clear n0 s0 b0 k1 c0 c1 d0 d1 R1
  have c0 := n1.c0
  have c1 := n1.c1
  have d0 := s1.c0
  have d1 := s1.c1
  go_wp2_with fail
  refine (R2.out _ b1).mono ?_; rintro e w2 ⟨rfl, k2⟩
  have n2 := n1.below k2
  have s2 := s1.below k2
  have b2 := below_next b1 k2
  clear n1 s1 b1 k2 c0 c1 d0 d1 R2
  have c0 := n2.c0
  have c1 := n2.c1
  have d0 := s2.c0
  have d1 := s2.c1
  go_wp2_with fail
  refine (R3.out _ b2).mono ?_; rintro e w3 ⟨rfl, k3⟩
  have n3 := n2.below k3
  have s3 := s2.below k3
  have b3 := below_next b2 k3
  clear n2 s2 b2 k3 c0 c1 d0 d1 R3
  have c0 := n3.c0
  have c1 := n3.c1
  have d0 := s3.c0
  have d1 := s3.c1
  go_wp2_with fail
  refine (R4.out _ b3).mono ?_; rintro e w4 ⟨rfl, k4⟩
  have n4 := n3.below k4
  have s4 := s3.below k4
  have b4 := below_next b3 k4
  clear n3 s3 b3 k4 c0 c1 d0 d1 R4
  have c0 := n4.c0
  have c1 := n4.c1
  have d0 := s4.c0
  have d1 := s4.c1
  go_wp2_with fail
  refine (R5.out _ b4).mono ?_; rintro e w5 ⟨rfl, k5⟩
  have n5 := n4.below k5
  have s5 := s4.below k5
  have b5 := below_next b4 k5
  clear n4 s4 b4 k5 c0 c1 d0 d1 R5
  have c0 := n5.c0
  have c1 := n5.c1
  have d0 := s5.c0
  have d1 := s5.c1
  go_wp2_with fail
  refine (R6.out _ b5).mono ?_; rintro e w6 ⟨rfl, k6⟩
  have n6 := n5.below k6
  have s6 := s5.below k6
  have b6 := below_next b5 k6
  clear n5 s5 b5 k6 c0 c1 d0 d1 R6
  have c0 := n6.c0
  have c1 := n6.c1
  have d0 := s6.c0
  have d1 := s6.c1
  go_wp2_with fail
  go_ret
  exact ⟨rfl, b6⟩
theorem rck8 (N s t Ns : Int) (m c ml cl lb cb : Nat) (A L B : Option Addr) (x y : Int) (w : World)
    (R1 : Hid (∀ u, Below w.heap.size w u → Calls Try.prog 13 #[.agg #[.int .i64 N, .slice A m c]] u fun e w' => e = .returned (.bool true) ∧ Below u.heap.size u w'))
    (R2 : Hid (∀ u, Below w.heap.size w u → Calls Try.prog 17 #[.agg #[.int .i64 N, .slice A m c], .int .i64 s, .int .i64 t] u fun e w' => e = .returned (.bool true) ∧ Below u.heap.size u w'))
    (R3 : Hid (∀ u, Below w.heap.size w u → Calls Try.prog 18 #[.agg #[.int .i64 N, .slice A m c], .int .i64 s, .int .i64 t, .slice L ml cl] u fun e w' => e = .returned (.bool true) ∧ Below u.heap.size u w'))
    (R4 : Hid (∀ u, Below w.heap.size w u → Calls Try.prog 44 #[.agg #[.int .i64 Ns, .slice B lb cb], .int .i64 N] u fun e w' => e = .returned (.bool true) ∧ Below u.heap.size u w'))
    (R5 : Hid (∀ u, Below w.heap.size w u → Calls Try.prog 45 #[.agg #[.int .i64 Ns, .slice B lb cb], .int .i64 s] u fun e w' => e = .returned (.bool true) ∧ Below u.heap.size u w'))
    (R6 : Hid (∀ u, Below w.heap.size w u → Calls Try.prog 45 #[.agg #[.int .i64 Ns, .slice B lb cb], .int .i64 t] u fun e w' => e = .returned (.bool false) ∧ Below u.heap.size u w'))
    (R7 : Hid (∀ u, Below w.heap.size w u → Calls Try.prog 19 #[.agg #[.int .i64 N, .slice A m c], .int .i64 s, .slice L ml cl] u fun e w' => e = .returned (.int .i64 x) ∧ Below u.heap.size u w'))
    (R8 : Hid (∀ u, Below w.heap.size w u → Calls Try.prog 25 #[.agg #[.int .i64 N, .slice A m c], .agg #[.int .i64 Ns, .slice B lb cb]] u fun e w' => e = .returned (.int .i64 y) ∧ Below u.heap.size u w'))
    : Calls Try.prog 15 #[.agg #[.int .i64 N, .slice A m c], .int .i64 s, .int .i64 t, .slice L ml cl, .agg #[.int .i64 Ns, .slice B lb cb]] w fun e w' => e = .returned (.bool (x == y)) ∧ Below w.heap.size w w' := by
  have n0 := (netAt_new w N A m c).alloc (.cells #[.int .i64 Ns, .slice B lb cb] 28)
  have s0 := setAt_new (w.alloc (.cells #[.int .i64 N, .slice A m c] 24)) Ns B lb cb
  rw [show (w.alloc (.cells #[.int .i64 N, .slice A m c] 24)).heap.size = w.heap.size + 1 by simp] at s0
  have b0 := (below_new w (.cells #[.int .i64 N, .slice A m c] 24)).alloc (below_new w _).size (.cells #[.int .i64 Ns, .slice B lb cb] 28)
  have c0 := n0.c0
  have c1 := n0.c1
  have d0 := s0.c0
  have d1 := s0.c1
  go_enter Try.func15, Try.ntmps15
  go_wp2_with fail
  refine (R1.out _ b0).mono ?_; rintro e w1 ⟨rfl, k1⟩
  have n1 := n0.below k1
  have s1 := s0.below k1
  have b1 := below_next b0 k1
  clear n0 s0 b0 k1 c0 c1 d0 d1 R1
  have c0 := n1.c0
  have c1 := n1.c1
  have d0 := s1.c0
  have d1 := s1.c1
  go_wp2_with fail
  refine (R2.out _ b1).mono ?_; rintro e w2 ⟨rfl, k2⟩
  have n2 := n1.below k2
  have s2 := s1.below k2
  have b2 := below_next b1 k2
  clear n1 s1 b1 k2 c0 c1 d0 d1 R2
  have c0 := n2.c0
  have c1 := n2.c1
  have d0 := s2.c0
  have d1 := s2.c1
  go_wp2_with fail
  refine (R3.out _ b2).mono ?_; rintro e w3 ⟨rfl, k3⟩
  have n3 := n2.below k3
  have s3 := s2.below k3
  have b3 := below_next b2 k3
  clear n2 s2 b2 k3 c0 c1 d0 d1 R3
  have c0 := n3.c0
  have c1 := n3.c1
  have d0 := s3.c0
  have d1 := s3.c1
  go_wp2_with fail
  refine (R4.out _ b3).mono ?_; rintro e w4 ⟨rfl, k4⟩
  have n4 := n3.below k4
  have s4 := s3.below k4
  have b4 := below_next b3 k4
  clear n3 s3 b3 k4 c0 c1 d0 d1 R4
  have c0 := n4.c0
  have c1 := n4.c1
  have d0 := s4.c0
  have d1 := s4.c1
  go_wp2_with fail
  refine (R5.out _ b4).mono ?_; rintro e w5 ⟨rfl, k5⟩
  have n5 := n4.below k5
  have s5 := s4.below k5
  have b5 := below_next b4 k5
  clear n4 s4 b4 k5 c0 c1 d0 d1 R5
  have c0 := n5.c0
  have c1 := n5.c1
  have d0 := s5.c0
  have d1 := s5.c1
  go_wp2_with fail
  refine (R6.out _ b5).mono ?_; rintro e w6 ⟨rfl, k6⟩
  have n6 := n5.below k6
  have s6 := s5.below k6
  have b6 := below_next b5 k6
  clear n5 s5 b5 k6 c0 c1 d0 d1 R6
  have c0 := n6.c0
  have c1 := n6.c1
  have d0 := s6.c0
  have d1 := s6.c1
  clear c0 c1 d0 d1
  go_wp2_with fail
  have k0 := cell_regrown n6.c0
  have k1 := cell_regrown n6.c1
  have k2 := cell_regrown s6.c0
  have k3 := cell_regrown s6.c1
  have CA := Lib.hid (fun d os => Calls.regrown_of (R7.out (grow (redrawn w6 d) os) (below_next b6 (below_regrown w6 d os))))
  have CB := Lib.hid (fun d os => Calls.regrown_of (R8.out (grow (redrawn w6 d) os) (below_next b6 (below_regrown w6 d os))))
  refine wp_region_quiet_below (by kernel_rfl) (by kernel_rfl) ?_
  repeat (first | go_big_quiet_step (first | with_reducible exact CA.out _ _ | with_reducible exact CB.out _ _) | quiet_step (first | with_reducible exact CA.out _ _ | with_reducible exact CB.out _ _))
  refine wpQuiet_nil ?_
  intro _ hw'
  obtain ⟨⟨dq, osq⟩, hw''⟩ := hw'
  subst hw''
  clear k0 k1 k2 k3
  have BQ := below_next b6 (below_regrown w6 dq osq)
  clear CA CB b6
  go_wp2_with fail
  go_ret
  exact ⟨by simp, BQ⟩
end Go.Proofs.Ytjdceafkcakbjaa
