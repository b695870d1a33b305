/- The law MatchingChecks: the walk. -/
import Derived.Test.YtmafnncpdccfdaaMCkA
import Derived.Test.YtmafnncpdccfdaaMAwk
namespace Go.Proofs.Ytmafnncpdccfdaa
open Go.RowKit Go.Sort
theorem great_any (N M : Int) (k c : Nat) (A : Option Addr) (w : World) : Calls Try.prog 10 #[.int .i64 N, .int .i64 M, .slice A k c] w fun e w' => (∃ v, e = .returned (.bool v)) ∧ w = w' := by
  obtain ⟨b1, h1⟩ : ∃ b, decide (60 < N) = b := ⟨_, rfl⟩
  obtain ⟨b2, h2⟩ : ∃ b, decide (N ≤ 512) = b := ⟨_, rfl⟩
  obtain ⟨b3, h3⟩ : ∃ b, decide (60 < M) = b := ⟨_, rfl⟩
  obtain ⟨b4, h4⟩ : ∃ b, decide (M ≤ 512) = b := ⟨_, rfl⟩
  obtain ⟨b5, h5⟩ : ∃ b, decide (400 < (k : Int)) = b := ⟨_, rfl⟩
  obtain ⟨b6, h6⟩ : ∃ b, decide ((k : Int) ≤ 2000) = b := ⟨_, rfl⟩
  obtain ⟨b7, h7⟩ : ∃ b, decide (2100 < (k : Int)) = b := ⟨_, rfl⟩
  go_enter Try.func10, Try.ntmps10
  go_wp2_with fail
  all_goals
    go_ret
    exact ⟨⟨_, rfl⟩, rfl⟩
def ChP (N M : Int) (k c p cp : Nat) (A B : Option Addr) (N1 N2 : Int) (la ca lb cb : Nat) (X Y : Option Addr) (w : World) : Prop :=
  Calls Try.prog 4 #[.int .i64 N, .int .i64 M, .slice A k c, .slice B p cp, .agg #[.int .i64 N1, .slice X la ca], .agg #[.int .i64 N2, .slice Y lb cb]] w fun e w' => e = .returned (.bool true) ∧ Below w.heap.size w w'
set_option maxRecDepth 100000 in
set_option maxHeartbeats 4000000 in
theorem ch_law (N M : Int) (k c p cp : Nat) (A B : Option Addr) (E Z : Nat → Int × Int) (N1 N2 : Int) (la ca lb cb : Nat) (X Y : Option Addr) (f g : Nat → Nat) (w : World) (h : Prs w A k E) (hz : Prs w B p Z) (hwf : ∀ i, i < p → WfP (Z i)) (hX : Wds w X la f) (hY : Wds w Y lb g) : ChP N M k c p cp A B N1 N2 la ca lb cb X Y w := by
  have HH := Lib.hid h
  have HZ := Lib.hid hz
  have HWF := Lib.hid hwf
  have HX := Lib.hid hX
  have HY := Lib.hid hY
  clear h hz hwf hX hY
  have hT := two_new w N1 N2 X Y la ca lb cb
  go_enter Try.func4, Try.ntmps4
  go_upto_region 1 with fail
  generalize (w.alloc (.cells #[.int .i64 N1, .slice X la ca] 30)).alloc (.cells #[.int .i64 N2, .slice Y lb cb] 30) = W at *
  go_wp2_with fail
  refine (awake_any _).mono ?_; rintro e w1 ⟨rfl, b1⟩
  have hT1 := hT.next b1
  clear hT b1
  have c0 := hT1.s.c0
  have c1 := hT1.s.c1
  have d0 := hT1.t.c0
  have d1 := hT1.t.c1
  go_wp2_with fail
  refine (great_any N M k c A w1).mono ?_; rintro e w2 ⟨⟨v0, rfl⟩, rfl⟩
  cases v0 with
  | true =>
    go_wp2_with fail
    go_ret
    exact ⟨rfl, hT1.b⟩
  | false =>
    by_cases hp : 400 < p
    · have q1 : decide (400 < (p : Int)) = true := decide_eq_true (by omega)
      go_wp2_with fail
      go_ret
      exact ⟨rfl, hT1.b⟩
    · have q1 : decide (400 < (p : Int)) = false := decide_eq_false (by omega)
      by_cases hla : 20 < la
      · have q2 : decide (20 < (la : Int)) = true := decide_eq_true (by omega)
        go_wp2_with fail
        go_ret
        exact ⟨rfl, hT1.b⟩
      · have q2 : decide (20 < (la : Int)) = false := decide_eq_false (by omega)
        by_cases hlb : 20 < lb
        · have q3 : decide (20 < (lb : Int)) = true := decide_eq_true (by omega)
          go_wp2_with fail
          go_ret
          exact ⟨rfl, hT1.b⟩
        · have q3 : decide (20 < (lb : Int)) = false := decide_eq_false (by omega)
          obtain ⟨v, hv⟩ : ∃ v : Bool, v = true ↔ CkP N M k p E Z N1 N2 la lb f g := ⟨@decide _ (Classical.propDecidable _), @decide_eq_true_iff _ (Classical.propDecidable _)⟩
          have qv : (v == v) = true := by simp
          have k0 := cell_regrown hT1.s.c0
          have k1 := cell_regrown hT1.s.c1
          have k2 := cell_regrown hT1.t.c0
          have k3 := cell_regrown hT1.t.c1
          have B1 := hT1.b
          have CA := Lib.hid (fun d os => Calls.regrown_of (ck_any N M k c p cp A B E Z N1 N2 la ca lb cb X Y f g v (grow (redrawn w1 d) os) ((HH.out.below B1).below (below_regrown w1 d os)) ((HZ.out.below B1).below (below_regrown w1 d os)) HWF.out (by omega) ((HX.out.below B1).below (below_regrown w1 d os)) ((HY.out.below B1).below (below_regrown w1 d os)) hv))
          have CB := Lib.hid (fun d os => Calls.regrown_of (rck_any N M k c p cp A B E Z N1 N2 la ca lb cb X Y f g v (grow (redrawn w1 d) os) ((HH.out.below B1).below (below_regrown w1 d os)) ((HZ.out.below B1).below (below_regrown w1 d os)) (by omega) ((HX.out.below B1).below (below_regrown w1 d os)) ((HY.out.below B1).below (below_regrown w1 d os)) hv))
          clear hv hT1
          go_wp2_with fail
          clear c0 c1 d0 d1
          refine wp_region_quiet_below (by kernel_rfl) (by kernel_rfl) ?_
          repeat (first | go_big_quiet_step (first | with_reducible exact CA.out _ _ | with_reducible exact CB.out _ _) | quiet_step (first | with_reducible exact CA.out _ _ | with_reducible exact CB.out _ _))
          refine wpQuiet_nil ?_
          intro _ hw'
          obtain ⟨⟨dq, osq⟩, hw''⟩ := hw'
          subst hw''
          clear k0 k1 k2 k3 CA CB
          have B4 := below_next B1 (below_regrown w1 dq osq)
          go_wp2_with fail
          go_ret
          exact ⟨rfl, B4⟩
end Go.Proofs.Ytmafnncpdccfdaa
