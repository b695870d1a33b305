/- flow.Check says yes to a flow and a cut that belong together. -/
import Derived.Test.YtjdceafkcakbjaaFIsf
import Derived.Lib.QuietBelow
namespace Go.Proofs.Ytjdceafkcakbjaa
open Go.RowKit Go.Sort
set_option maxHeartbeats 4000000 in
theorem check_yes (n m c s t cl lb cb : Nat) (A L B : Option Addr) (E : Nat → EdgeD) (g : Nat → Int) (f : Nat → Nat) (w : World) (h : Edges w A m E) (hv : VNet n m E) (hs : s < n) (ht : t < n) (hst : s ≠ t)
    (hL : Ints w L m g) (hg : (netOf n m E).Flow s t g) (hB : Wds w B lb f) (hf : Vld (n : Int) lb f) (h1 : bt f s = true) (h2 : bt f t = false) (he : (netOf n m E).bal g s = (netOf n m E).capS (bt f)) :
    Calls Try.prog 14 #[.agg #[.int .i64 n, .slice A m c], .int .i64 s, .int .i64 t, .slice L m cl, .agg #[.int .i64 n, .slice B lb cb]] w fun e w' => e = .returned (.bool true) ∧ Below w.heap.size w w' := by
  have n0 := (netAt_new w n A m c).alloc (.cells #[.int .i64 n, .slice B lb cb] 28)
  have s0 := setAt_new (w.alloc (.cells #[.int .i64 n, .slice A m c] 24)) n B lb cb
  rw [show (w.alloc (.cells #[.int .i64 n, .slice A m c] 24)).heap.size = w.heap.size + 1 by simp] at s0
  have b0 := (below_new w (.cells #[.int .i64 n, .slice A m c] 24)).alloc (below_new w _).size (.cells #[.int .i64 n, .slice B lb cb] 28)
  obtain ⟨x, hx⟩ : ∃ x, x = (netOf n m E).bal g s := ⟨_, rfl⟩
  have A1 : Hid (∀ u, Below w.heap.size w u → Calls Try.prog 39 #[.agg #[.int .i64 n, .slice A m c], .int .i64 s, .int .i64 t] u fun e w' => e = .returned (.int .i64 0) ∧ Below u.heap.size u w') := fun u hu =>
    argErr_ok n s t A m c E u (h.below hu) hv ⟨by omega, ⟨by omega, by omega⟩, by omega, by omega⟩
  have A2 : Hid (∀ u, Below w.heap.size w u → Calls Try.prog 40 #[.agg #[.int .i64 n, .slice A m c], .int .i64 s, .int .i64 t, .slice L m cl] u fun e w' => e = .returned (.bool true) ∧ Below u.heap.size u w') := fun u hu =>
    isFlow_bal n s t m c cl n true A L E g u (h.below hu) hv (hL.below hu) (fun i hi => ⟨hg.r0 i hi, hg.r1 i hi⟩) (Nat.le_refl _) (fun a ha => by
      by_cases e1 : a = s
      · exact Or.inr (Or.inl e1)
      · by_cases e2 : a = t
        · exact Or.inr (Or.inr e2)
        · exact Or.inl (hg.b a ha e1 e2)) (Or.inl ⟨rfl, rfl⟩)
  have A3 : Hid (∀ u, Below w.heap.size w u → Calls Try.prog 41 #[.agg #[.int .i64 n, .slice B lb cb], .int .i64 s] u fun e w' => e = .returned (.bool true) ∧ Below u.heap.size u w') := fun u hu => has_in n s B lb cb f true u (hB.below hu) hf hs h1
  have A4 : Hid (∀ u, Below w.heap.size w u → Calls Try.prog 41 #[.agg #[.int .i64 n, .slice B lb cb], .int .i64 t] u fun e w' => e = .returned (.bool false) ∧ Below u.heap.size u w') := fun u hu => has_in n t B lb cb f false u (hB.below hu) hf ht h2
  have A5 : Hid (∀ u, Below w.heap.size w u → Calls Try.prog 42 #[.agg #[.int .i64 n, .slice A m c], .int .i64 s, .slice L m cl] u fun e w' => e = .returned (.int .i64 x) ∧ Below u.heap.size u w') := fun u hu => by
    rw [hx]; exact value_any n m c cl s A L E g u (h.below hu) hv (hL.below hu) (fun i hi => ⟨hg.r0 i hi, Int.le_trans (hg.r1 i hi) (net_c hv hi)⟩) hs
  have A6 : Hid (∀ u, Below w.heap.size w u → Calls Try.prog 43 #[.agg #[.int .i64 n, .slice A m c], .agg #[.int .i64 n, .slice B lb cb]] u fun e w' => e = .returned (.int .i64 x) ∧ Below u.heap.size u w') := fun u hu => by
    rw [hx, he]; exact capacity_any n m c A E B lb cb f u (h.below hu) hv (hB.below hu) hf
  clear h hv hs ht hst hL hg hB hf h1 h2 he hx
  have c0 := n0.c0
  have c1 := n0.c1
  have hqn : ((n : Int) != (n : Int)) = false := by simp
  go_enter Try.func14, Try.ntmps14
  go_wp2_with fail
  refine (A1.out _ b0).mono ?_; rintro e w1 ⟨rfl, b1⟩
  have n1 := n0.below b1
  have s1 := s0.below b1
  have B1 := below_next b0 b1
  clear n0 s0 b0 b1 c0 c1
  have c0 := n1.c0
  have c1 := n1.c1
  go_wp2_with fail
  refine (A2.out _ B1).mono ?_; rintro e w2 ⟨rfl, b2⟩
  have n2 := n1.below b2
  have s2 := s1.below b2
  have B2 := below_next B1 b2
  clear n1 s1 B1 b2 c0 c1
  have c0 := n2.c0
  have d0 := s2.c0
  have d1 := s2.c1
  go_wp2_with fail
  refine (A3.out _ B2).mono ?_; rintro e w3 ⟨rfl, b3⟩
  have n3 := n2.below b3
  have s3 := s2.below b3
  have B3 := below_next B2 b3
  clear n2 s2 B2 b3 c0 d0 d1
  have d0 := s3.c0
  have d1 := s3.c1
  go_wp2_with fail
  refine (A4.out _ B3).mono ?_; rintro e W ⟨rfl, b4⟩
  have n4 := n3.below b4
  have s4 := s3.below b4
  have B4 := below_next B3 b4
  clear n3 s3 B3 b4 d0 d1 A1 A2 A3 A4
  go_wp2_with fail
  have k0 := cell_regrown n4.c0
  have k1 := cell_regrown n4.c1
  have k2 := cell_regrown s4.c0
  have k3 := cell_regrown s4.c1
  have CA := Lib.hid (fun d os => Calls.regrown_of (A5.out (grow (redrawn W d) os) (below_next B4 (below_regrown W d os))))
  have CB := Lib.hid (fun d os => Calls.regrown_of (A6.out (grow (redrawn W d) os) (below_next B4 (below_regrown W d os))))
  refine wp_region_quiet_below (by kernel_rfl) (by kernel_rfl) ?_
  repeat (first | go_big_quiet_step (first | with_reducible exact CA.out _ _ | with_reducible exact CB.out _ _) | quiet_step (first | with_reducible exact CA.out _ _ | with_reducible exact CB.out _ _))
  refine wpQuiet_nil ?_
  intro _ hw'
  obtain ⟨⟨dq, osq⟩, hw''⟩ := hw'
  subst hw''
  clear k0 k1 k2 k3
  have B5 := below_next B4 (below_regrown W dq osq)
  clear CA CB B4
  go_wp2_with fail
  go_ret
  exact ⟨by simp, B5⟩
end Go.Proofs.Ytjdceafkcakbjaa
