/- The contracts of package bits on sets: areComparable, Has, Count. -/
import Derived.Test.YtngpfondnampjaaDoorMemo
import Derived.Lib.QuietBelow
namespace Go.Proofs.YtngpfondnampjaaDoor
open Go.RowKit Go.Sort
theorem cmp_yes (N : Int) (A B : Option Addr) (la ca lb cb : Nat) (f g : Nat → Nat) (w : World) (ha : Wds w A la f) (hb : Wds w B lb g) (va : Vld N la f) (vb : Vld N lb g) :
    Calls Tryd.prog 86 #[.agg #[.int .i64 N, .slice A la ca], .agg #[.int .i64 N, .slice B lb cb]] w fun e w' => e = .returned (.bool true) ∧ Below w.heap.size w w' := by
  have HA := Lib.hid ha; clear ha
  have HB := Lib.hid hb; clear hb
  have VA := Lib.hid va; clear va
  have VB := Lib.hid vb; clear vb
  have hT := two_new w N N A B la ca lb cb
  have heq : (N == N) = true := by simp
  go_enter Tryd.func86, Tryd.ntmps86
  go_wp2_with fail
  refine (valid_yes _ _ _ _ _ _ (HA.out.below hT.b) VA.out).mono ?_; rintro e w2 ⟨rfl, b2⟩
  have d0 := (hT.next b2).t.c0
  have d1 := (hT.next b2).t.c1
  go_wp2_with fail
  refine (valid_yes _ _ _ _ _ _ (HB.out.below (hT.next b2).b) VB.out).mono ?_; rintro e w3 ⟨rfl, b3⟩
  go_wp2_with fail
  go_ret
  exact ⟨rfl, (hT.next b2 |>.next b3).b⟩
theorem cmp_no (N M : Int) (A B : Option Addr) (la ca lb cb : Nat) (f g : Nat → Nat) (w : World) (ha : Wds w A la f) (hb : Wds w B lb g) (h : ¬ (Vld N la f ∧ Vld M lb g ∧ N = M)) :
    Calls Tryd.prog 86 #[.agg #[.int .i64 N, .slice A la ca], .agg #[.int .i64 M, .slice B lb cb]] w fun e w' => e = .returned (.bool false) ∧ Below w.heap.size w w' := by
  have HA := Lib.hid ha; clear ha
  have HB := Lib.hid hb; clear hb
  have hT := two_new w N M A B la ca lb cb
  by_cases he : N = M
  · subst he
    have heq : (N == N) = true := by simp
    by_cases hv : Vld N la f
    · have hu : ¬ Vld N lb g := fun hu => h ⟨hv, hu, rfl⟩
      have HV := Lib.hid hv
      have HU := Lib.hid hu
      clear h hv hu
      go_enter Tryd.func86, Tryd.ntmps86
      go_wp2_with fail
      refine (valid_yes _ _ _ _ _ _ (HA.out.below hT.b) HV.out).mono ?_; rintro e w2 ⟨rfl, b2⟩
      have d0 := (hT.next b2).t.c0
      have d1 := (hT.next b2).t.c1
      go_wp2_with fail
      refine (valid_no _ _ _ _ _ _ (HB.out.below (hT.next b2).b) HU.out).mono ?_; rintro e w3 ⟨rfl, b3⟩
      go_wp2_with fail
      go_ret
      exact ⟨rfl, (hT.next b2 |>.next b3).b⟩
    · have HV := Lib.hid hv
      clear h hv
      go_enter Tryd.func86, Tryd.ntmps86
      go_wp2_with fail
      refine (valid_no _ _ _ _ _ _ (HA.out.below hT.b) HV.out).mono ?_; rintro e w2 ⟨rfl, b2⟩
      go_wp2_with fail
      go_ret
      exact ⟨rfl, (hT.next b2).b⟩
  · have hne : (N == M) = false := beq_false_of_ne he
    clear h he
    go_enter Tryd.func86, Tryd.ntmps86
    go_wp2_with fail
    go_ret
    exact ⟨rfl, hT.b⟩
theorem count_yes (N : Nat) (A : Option Addr) (m ca : Nat) (f : Nat → Nat) (w : World) (ha : Wds w A m f) (hv : Vld N m f) :
    Calls Tryd.prog 46 #[.agg #[.int .i64 N, .slice A m ca]] w fun e w' => e = .returned (.int .i64 (cnt f m : Nat)) ∧ Below w.heap.size w w' := by
  have h1 := hv.2.1
  have h2 := hv.2.2.1
  simp only [Int.toNat_natCast] at h2
  have hm9 : m ≤ 9 := by omega
  have H2 := Lib.hid h2; clear h2
  have HA := Lib.hid ha; clear ha
  have HV := Lib.hid hv; clear hv
  have hO := one_new w N A m ca
  go_enter Tryd.func46, Tryd.ntmps46
  go_wp2_with fail
  refine (valid_yes _ _ _ _ _ _ (HA.out.below hO.b) HV.out).mono ?_; rintro e w2 ⟨rfl, b2⟩
  have hO2 := hO.next b2
  have c1 := hO2.s.c1
  go_wp2_with fail
  have HA2 := HA.out.below hO2.b
  go_loop [3, 12] (fun s i => ∃ K : Nat, K ≤ m ∧ i = .int .i64 K ∧ s = .int .i64 (cnt f K : Nat)) (fun _ i => m - (intOf i).toNat)
  case atStart => exact ⟨0, by omega, rfl, rfl⟩
  case round =>
    obtain ⟨K, hK, rfl, rfl⟩ := hrel
    have hcl := cnt_le f K
    have hpl := pop_le (f K)
    by_cases hlt : K < m
    · obtain ⟨b, off, rfl, hb, hc⟩ := HA2.2 (by omega)
      have x := hc K hlt
      have hx64 := HA.out.1 K hlt
      clear hc HA2
      have HC : Hid (cnt f (K + 1) = cnt f K + pop (f K)) := rfl
      go_wp2_with fail
      refine (ones_any _ _ hx64).mono ?_; rintro e w3 ⟨rfl, rfl⟩
      go_wp2_with fail
      go_round
      case rel => exact ⟨K + 1, by omega, by go_num, by rw [HC.out]; go_num⟩
      case measure => simp [intOf]; omega
    · obtain rfl : K = m := by omega
      clear HA2
      go_wp2_with fail
      go_ret
      exact ⟨rfl, hO2.b⟩
theorem count_no (N : Int) (A : Option Addr) (la ca : Nat) (f : Nat → Nat) (w : World) (ha : Wds w A la f) (hv : ¬ Vld N la f) :
    Calls Tryd.prog 46 #[.agg #[.int .i64 N, .slice A la ca]] w fun e w' => e = .returned (.int .i64 0) ∧ Below w.heap.size w w' := by
  have HA := Lib.hid ha; clear ha
  have HV := Lib.hid hv; clear hv
  have hO := one_new w N A la ca
  go_enter Tryd.func46, Tryd.ntmps46
  go_wp2_with fail
  refine (valid_no _ _ _ _ _ _ (HA.out.below hO.b) HV.out).mono ?_; rintro e w2 ⟨rfl, b2⟩
  go_wp2_with fail
  go_ret
  exact ⟨rfl, (hO.next b2).b⟩
theorem has_in (N i : Nat) (A : Option Addr) (la ca : Nat) (f : Nat → Nat) (v : Bool) (w : World) (ha : Wds w A la f) (hv : Vld N la f) (hi : i < N) (hb : bt f i = v) :
    Calls Tryd.prog 56 #[.agg #[.int .i64 N, .slice A la ca], .int .i64 i] w fun e w' => e = .returned (.bool v) ∧ Below w.heap.size w w' := by
  have h1 := hv.2.1
  have h2 := hv.2.2.1
  simp only [Int.toNat_natCast] at h2
  have hi64 : i / 64 < la := by omega
  have hi512 : i < 512 := by omega
  have hl9 : la ≤ 9 := by omega
  have H2 := Lib.hid h2; clear h2
  have hO := one_new w N A la ca
  obtain ⟨b, off, rfl, hbl, hc⟩ := ha.2 (by omega)
  have x := hc (i / 64) hi64
  have hx64 := ha.1 (i / 64) hi64
  clear hc
  have HA := Lib.hid ha; clear ha
  have HV := Lib.hid hv; clear hv
  have HB : Hid ((f (i / 64)).testBit (i % 64) = v) := hb
  clear hb
  generalize f (i / 64) = y at *
  have hy := hO.b.cell (p := ⟨b, off + i / 64, none⟩) hbl |>.trans x
  go_enter Tryd.func56, Tryd.ntmps56
  go_wp2_with fail
  generalize w.alloc (.cells #[.int .i64 N, .slice (some ⟨b, off, none⟩) la ca] 28) = W at *
  have k0 := cell_regrown hO.s.c0
  have k1 := cell_regrown hO.s.c1
  have k2 := cell_regrown hy
  have cV : ∀ d os, Calls Tryd.prog 41 #[.agg #[.int .i64 N, .slice (some ⟨b, off, none⟩) la ca]] (grow (redrawn W d) os) fun e w'' => e = .returned (.bool true) ∧ ∃ p : Regrown, w'' = grow (redrawn W p.d) p.os := fun d os =>
    Calls.regrown_of (valid_yes _ _ _ _ _ _ (HA.out.below (below_next hO.b (below_regrown W d os))) HV.out)
  have cI : ∀ d os, Calls Tryd.prog 82 #[.int .i64 i, .int .i64 N] (grow (redrawn W d) os) fun e w'' => e = .returned (.bool true) ∧ ∃ p : Regrown, w'' = grow (redrawn W p.d) p.os := fun d os =>
    Calls.regrown_of ((isIndex_yes i N _ (by omega) (by omega)).mono fun _ _ ⟨he, hw⟩ => ⟨he, by rw [← hw]; exact Below.refl _ _⟩)
  have cO : ∀ d os, Calls Tryd.prog 83 #[.int .i64 i] (grow (redrawn W d) os) fun e w'' => e = .returned (.int .u64 (2 ^ (i % 64) : Nat)) ∧ ∃ p : Regrown, w'' = grow (redrawn W p.d) p.os := fun d os =>
    Calls.regrown_of ((bitOf_any i _ hi512).mono fun _ _ ⟨he, hw⟩ => ⟨he, by rw [← hw]; exact Below.refl _ _⟩)
  have hq : (i : Int).tdiv 64 = (i : Int) / 64 := by rw [Int.tdiv_eq_ediv_of_nonneg (by omega)]
  have hq0 : (0 : Int) ≤ (i : Int) / 64 := by omega
  have hq1 : (i : Int) / 64 < (la : Int) := by omega
  have hq2 : ((i : Int) / 64).toNat = i / 64 := by omega
  have hand : (bits .and .u64 (y : Int) ((2 ^ (i % 64) : Nat) : Int) != 0) = v := by
    rw [u64_and_nat y _ hx64 (pow_lt _ (by omega)), and_pow, ← HB.out]
    have hp := Nat.two_pow_pos (i % 64)
    cases y.testBit (i % 64)
    · simp
    · have h3 : ¬ ((2 ^ (i % 64) : Nat) : Int) = 0 := by omega
      simp only [Bool.toNat_true, Nat.one_mul]
      exact bne_iff_ne.2 h3
  have hand2 : (bits .and .u64 (y : Int) ((2 : Int) ^ (i % 64)) != 0) = v := by
    have e : ((2 : Int) ^ (i % 64)) = ((2 ^ (i % 64) : Nat) : Int) := by simp
    rw [e]; exact hand
  have HD := Lib.hid hand2; clear hand2 hand
  have CV := Lib.hid cV; clear cV
  have CI := Lib.hid cI; clear cI
  have CO := Lib.hid cO; clear cO
  refine wp_region_quiet_below (by kernel_rfl) (by kernel_rfl) ?_
  repeat (first | go_big_quiet_step (first | with_reducible exact CV.out _ _ | with_reducible exact CI.out _ _ | with_reducible exact CO.out _ _) | quiet_step (first | with_reducible exact CV.out _ _ | with_reducible exact CI.out _ _ | with_reducible exact CO.out _ _))
  refine wpQuiet_nil ?_
  intro _ hw'
  obtain ⟨⟨dq, osq⟩, hw''⟩ := hw'
  subst hw''
  clear k0 k1 k2
  have hT2 := hO.next (below_regrown W dq osq)
  go_wp2
  go_ret
  exact ⟨ret_bool HD.out, hT2.b⟩
theorem has_out (N i : Int) (A : Option Addr) (la ca : Nat) (f : Nat → Nat) (w : World) (ha : Wds w A la f) (h : ¬ (Vld N la f ∧ 0 ≤ i ∧ i < N)) :
    Calls Tryd.prog 56 #[.agg #[.int .i64 N, .slice A la ca], .int .i64 i] w fun e w' => e = .returned (.bool false) ∧ Below w.heap.size w w' := by
  have HA := Lib.hid ha; clear ha
  have hO := one_new w N A la ca
  by_cases hv : Vld N la f
  · have hx : i < 0 ∨ N ≤ i := by
      by_cases h0 : i < 0
      · exact Or.inl h0
      · rcases Int.lt_or_le i N with h2 | h2
        · exact absurd ⟨hv, by omega, h2⟩ h
        · exact Or.inr h2
    have HX := Lib.hid hx
    have HV := Lib.hid hv
    clear h hv hx
    go_enter Tryd.func56, Tryd.ntmps56
    go_wp2_with fail
    generalize w.alloc (.cells #[.int .i64 N, .slice A la ca] 28) = W at *
    have k0 := cell_regrown hO.s.c0
    have k1 := cell_regrown hO.s.c1
    have cV : ∀ d os, Calls Tryd.prog 41 #[.agg #[.int .i64 N, .slice A la ca]] (grow (redrawn W d) os) fun e w'' => e = .returned (.bool true) ∧ ∃ p : Regrown, w'' = grow (redrawn W p.d) p.os := fun d os =>
      Calls.regrown_of (valid_yes _ _ _ _ _ _ (HA.out.below (below_next hO.b (below_regrown W d os))) HV.out)
    have cI : ∀ d os, Calls Tryd.prog 82 #[.int .i64 i, .int .i64 N] (grow (redrawn W d) os) fun e w'' => e = .returned (.bool false) ∧ ∃ p : Regrown, w'' = grow (redrawn W p.d) p.os := fun d os =>
      Calls.regrown_of ((isIndex_no i N _ HX.out).mono fun _ _ ⟨he, hw⟩ => ⟨he, by rw [← hw]; exact Below.refl _ _⟩)
    have CV := Lib.hid cV; clear cV
    have CI := Lib.hid cI; clear cI
    refine wp_region_quiet_below (by kernel_rfl) (by kernel_rfl) ?_
    repeat (first | go_big_quiet_step (first | with_reducible exact CV.out _ _ | with_reducible exact CI.out _ _) | quiet_step (first | with_reducible exact CV.out _ _ | with_reducible exact CI.out _ _))
    refine wpQuiet_nil ?_
    intro _ hw'
    obtain ⟨⟨dq, osq⟩, hw''⟩ := hw'
    subst hw''
    clear k0 k1
    have hT2 := hO.next (below_regrown W dq osq)
    go_wp2
    go_ret
    exact ⟨rfl, hT2.b⟩
  · have HV := Lib.hid hv
    clear h hv
    go_enter Tryd.func56, Tryd.ntmps56
    go_wp2_with fail
    generalize w.alloc (.cells #[.int .i64 N, .slice A la ca] 28) = W at *
    have k0 := cell_regrown hO.s.c0
    have k1 := cell_regrown hO.s.c1
    have cV : ∀ d os, Calls Tryd.prog 41 #[.agg #[.int .i64 N, .slice A la ca]] (grow (redrawn W d) os) fun e w'' => e = .returned (.bool false) ∧ ∃ p : Regrown, w'' = grow (redrawn W p.d) p.os := fun d os =>
      Calls.regrown_of (valid_no _ _ _ _ _ _ (HA.out.below (below_next hO.b (below_regrown W d os))) HV.out)
    have CV := Lib.hid cV; clear cV
    refine wp_region_quiet_below (by kernel_rfl) (by kernel_rfl) ?_
    repeat (first | go_big_quiet_step (with_reducible exact CV.out _ _) | quiet_step (with_reducible exact CV.out _ _))
    refine wpQuiet_nil ?_
    intro _ hw'
    obtain ⟨⟨dq, osq⟩, hw''⟩ := hw'
    subst hw''
    clear k0 k1
    have hT2 := hO.next (below_regrown W dq osq)
    go_wp2
    go_ret
    exact ⟨rfl, hT2.b⟩
end Go.Proofs.YtngpfondnampjaaDoor
