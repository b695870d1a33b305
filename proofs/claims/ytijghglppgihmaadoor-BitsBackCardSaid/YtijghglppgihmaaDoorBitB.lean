/- The contracts of package bits on sets: Subset, Compare. -/
import Derived.Test.YtijghglppgihmaaDoorBitA
namespace Go.Proofs.YtijghglppgihmaaDoor
open Go.RowKit Go.Sort
theorem subset_no (N M : Int) (A B : Option Addr) (la ca lb cb : Nat) (f g : Nat → Nat) (w : World) (ha : Wds w A la f) (hb : Wds w B lb g) (h : ¬ (Vld N la f ∧ Vld M lb g ∧ N = M)) :
    Calls Tryd.prog 40 #[.agg #[.int .i64 N, .slice A la ca], .agg #[.int .i64 M, .slice B lb cb]] w fun e w' => e = .returned (.bool false) ∧ Below w.heap.size w w' := by
  have HA := Lib.hid ha; clear ha
  have HB := Lib.hid hb; clear hb
  have HN := Lib.hid h; clear h
  have hT := two_new w N M A B la ca lb cb
  go_enter Tryd.func40, Tryd.ntmps40
  go_wp2_with fail
  refine (cmp_no _ _ _ _ _ _ _ _ _ _ _ (HA.out.below hT.b) (HB.out.below hT.b) HN.out).mono ?_; rintro e w2 ⟨rfl, b2⟩
  go_wp2_with fail
  go_ret
  exact ⟨rfl, (hT.next b2).b⟩
theorem subset_any (N : Nat) (A B : Option Addr) (m ca cb : Nat) (f g : Nat → Nat) (J : Nat) (v : Bool) (w : World) (ha : Wds w A m f) (hb : Wds w B m g) (va : Vld N m f) (vb : Vld N m g) (hJ : J ≤ m)
    (hz : ∀ k, k < J → andNot (f k) (g k) = 0) (hv : (v = true ∧ J = m) ∨ (v = false ∧ J < m ∧ andNot (f J) (g J) ≠ 0)) :
    Calls Tryd.prog 40 #[.agg #[.int .i64 N, .slice A m ca], .agg #[.int .i64 N, .slice B m cb]] w fun e w' => e = .returned (.bool v) ∧ Below w.heap.size w w' := by
  have h1 := va.2.1
  have h2 := va.2.2.1
  simp only [Int.toNat_natCast] at h2
  have hm9 : m ≤ 9 := by omega
  have H2 := Lib.hid h2; clear h2
  have HA := Lib.hid ha; clear ha
  have HB := Lib.hid hb; clear hb
  have VA := Lib.hid va; clear va
  have VB := Lib.hid vb; clear vb
  have HZ := Lib.hid hz; clear hz
  have HV := Lib.hid hv; clear hv
  have hT0 := two_new w N N A B m ca m cb
  go_enter Tryd.func40, Tryd.ntmps40
  go_wp2_with fail
  refine (cmp_yes _ _ _ _ _ _ _ _ _ _ (HA.out.below hT0.b) (HB.out.below hT0.b) VA.out VB.out).mono ?_; rintro e w0 ⟨rfl, b0⟩
  have hT1 := hT0.next b0
  have cc := hT1.s.c1
  clear hT0 b0
  go_wp2_with fail
  clear cc
  go_loopw [5, 13] (fun x i wr => ∃ K : Nat, K ≤ J ∧ i = .int .i64 K ∧ Two w wr N N A B m ca m cb) (fun _ i _ => J - (intOf i).toNat)
  case atStart => exact ⟨0, by omega, rfl, hT1⟩
  case round =>
    clear hT1
    obtain ⟨K, hK, rfl, hT⟩ := hrel
    have c1 := hT.s.c1
    have d1 := hT.t.c1
    have HA2 := HA.out.below hT.b
    have HB2 := HB.out.below hT.b
    by_cases hlt : K < m
    · obtain ⟨b1, o1, rfl, hb1, hc1⟩ := HA2.2 (by omega)
      obtain ⟨b2, o2, rfl, hb2, hc2⟩ := HB2.2 (by omega)
      have x1 := hc1 K hlt
      have x2 := hc2 K hlt
      have hn := u64_andNot_nat (f K) (g K) (HA2.1 K hlt) (HB2.1 K hlt)
      clear hc1 hc2 HA2 HB2
      have hi0 : (0 : Int) ≤ (K : Int) := by omega
      have hi1 : (K : Int) < (m : Int) := by omega
      by_cases hlt2 : K < J
      · have he : bits .andNot .u64 (f K : Int) (g K : Int) = 0 := by rw [hn]; have := HZ.out K hlt2; unfold andNot at this; rw [this]; rfl
        clear hn
        go_wp2_with fail
        go_quiet (fail)
        go_wp2_with fail
        go_roundw
        case rel => exact ⟨K + 1, by omega, by go_num, hT.drewN _⟩
        case measure => simp [intOf]; omega
      · obtain rfl : K = J := by omega
        rcases HV.out with ⟨_, h2⟩ | ⟨rfl, _, hne⟩
        · omega
        · have he : (bits .andNot .u64 (f K : Int) (g K : Int) == 0) = false := by
            rw [hn]; unfold andNot at hne; exact beq_false_of_ne (by omega)
          have he2 : (bits .andNot .u64 (f K : Int) (g K : Int) != 0) = true := by simp only [bne, he]; rfl
          have HN := Lib.hid hne; clear hne hn
          go_wp2_with fail
          go_quiet (fail)
          go_wp2_with fail
          go_ret
          exact ⟨rfl, (hT.drewN _).b⟩
    · rcases HV.out with ⟨rfl, h2⟩ | ⟨_, h2, _⟩
      · have HJ := Lib.hid h2
        clear HA2 HB2 h2
        go_wp2_with fail
        go_ret
        exact ⟨rfl, hT.b⟩
      · omega
theorem cmpI_any (x y : Nat) (w : World) : Calls Tryd.prog 65 #[.int .i64 x, .int .i64 y] w fun e w' => e = .returned (.int .i64 (if x < y then -1 else if y < x then 1 else 0)) ∧ w = w' := by
  rcases Nat.lt_trichotomy x y with h | h | h
  · rw [if_pos h]
    go_enter Tryd.func65, Tryd.ntmps65
    go_wp2
    go_ret
    exact ⟨rfl, rfl⟩
  · subst h
    rw [if_neg (by omega), if_neg (by omega)]
    go_enter Tryd.func65, Tryd.ntmps65
    go_wp2
    go_ret
    exact ⟨rfl, rfl⟩
  · rw [if_neg (by omega), if_pos h]
    go_enter Tryd.func65, Tryd.ntmps65
    go_wp2
    go_ret
    exact ⟨rfl, rfl⟩
theorem compare_no (N M : Int) (A B : Option Addr) (la ca lb cb : Nat) (f g : Nat → Nat) (w : World) (ha : Wds w A la f) (hb : Wds w B lb g) (h : ¬ (Vld N la f ∧ Vld M lb g ∧ N = M)) :
    Calls Tryd.prog 37 #[.agg #[.int .i64 N, .slice A la ca], .agg #[.int .i64 M, .slice B lb cb]] w fun e w' => e = .returned (.tuple #[.int .i64 0, .int .i64 1]) ∧ Below w.heap.size w w' := by
  have HA := Lib.hid ha; clear ha
  have HB := Lib.hid hb; clear hb
  have HN := Lib.hid h; clear h
  have hT := two_new w N M A B la ca lb cb
  go_enter Tryd.func37, Tryd.ntmps37
  go_wp2_with fail
  refine (cmp_no _ _ _ _ _ _ _ _ _ _ _ (HA.out.below hT.b) (HB.out.below hT.b) HN.out).mono ?_; rintro e w2 ⟨rfl, b2⟩
  go_wp2_with fail
  go_ret2
  exact ⟨rfl, (hT.next b2).b⟩
/- what Compare answers: by the counts, then by the first word that differs -/
def CmpW (f g : Nat → Nat) (m : Nat) (r : Int) : Prop :=
  (cnt f m < cnt g m ∧ r = -1) ∨ (cnt g m < cnt f m ∧ r = 1) ∨ (cnt f m = cnt g m ∧ ∃ J, J ≤ m ∧ (∀ k, k < J → f k = g k) ∧ ((r = 0 ∧ J = m) ∨ (J < m ∧ f J ≠ g J ∧ r = cwords (f J) (g J))))
theorem cwords_ne {x y : Nat} (h : x ≠ y) : cwords x y = -1 ∨ cwords x y = 1 := by
  unfold cwords
  rw [if_neg h]
  split <;> simp
theorem cwords_same (x : Nat) : cwords x x = 0 := by simp [cwords]
set_option maxHeartbeats 2000000 in
theorem compare_any (N : Nat) (A B : Option Addr) (m ca cb : Nat) (f g : Nat → Nat) (r : Int) (w : World) (ha : Wds w A m f) (hb : Wds w B m g) (va : Vld N m f) (vb : Vld N m g) (hr : CmpW f g m r) :
    Calls Tryd.prog 37 #[.agg #[.int .i64 N, .slice A m ca], .agg #[.int .i64 N, .slice B m cb]] w fun e w' => e = .returned (.tuple #[.int .i64 r, .int .i64 0]) ∧ Below w.heap.size w w' := by
  have h1 := va.2.1
  have h2 := va.2.2.1
  simp only [Int.toNat_natCast] at h2
  have hm9 : m ≤ 9 := by omega
  have H2 := Lib.hid h2; clear h2
  have HA := Lib.hid ha; clear ha
  have HB := Lib.hid hb; clear hb
  have VA := Lib.hid va; clear va
  have VB := Lib.hid vb; clear vb
  have HR := Lib.hid hr; clear hr
  have hT0 := two_new w N N A B m ca m cb
  obtain ⟨s0, hs0⟩ : ∃ s0 : Int, (if cnt f m < cnt g m then -1 else if cnt g m < cnt f m then 1 else 0) = s0 := ⟨_, rfl⟩
  have hq := fun w => cmpI_any (cnt f m) (cnt g m) w
  simp only [hs0] at hq
  have HS0 := Lib.hid hs0; clear hs0
  have HQ := Lib.hid hq; clear hq
  go_enter Tryd.func37, Tryd.ntmps37
  go_wp2_with fail
  refine (cmp_yes _ _ _ _ _ _ _ _ _ _ (HA.out.below hT0.b) (HB.out.below hT0.b) VA.out VB.out).mono ?_; rintro e W ⟨rfl, b0⟩
  have hT := hT0.next b0
  clear hT0 b0
  go_wp2_with fail
  have k0 := cell_regrown hT.s.c0
  have k1 := cell_regrown hT.s.c1
  have k2 := cell_regrown hT.t.c0
  have k3 := cell_regrown hT.t.c1
  have cA : ∀ d os, Calls Tryd.prog 38 #[.agg #[.int .i64 N, .slice A m ca]] (grow (redrawn W d) os) fun e w'' => e = .returned (.int .i64 (cnt f m : Nat)) ∧ ∃ p : Regrown, w'' = grow (redrawn W p.d) p.os := fun d os =>
    Calls.regrown_of (count_yes N A m ca f (grow (redrawn W d) os) (HA.out.below (below_next hT.b (below_regrown W d os))) VA.out)
  have cB : ∀ d os, Calls Tryd.prog 38 #[.agg #[.int .i64 N, .slice B m cb]] (grow (redrawn W d) os) fun e w'' => e = .returned (.int .i64 (cnt g m : Nat)) ∧ ∃ p : Regrown, w'' = grow (redrawn W p.d) p.os := fun d os =>
    Calls.regrown_of (count_yes N B m cb g (grow (redrawn W d) os) (HB.out.below (below_next hT.b (below_regrown W d os))) VB.out)
  have cC : ∀ d os, Calls Tryd.prog 65 #[.int .i64 (cnt f m : Nat), .int .i64 (cnt g m : Nat)] (grow (redrawn W d) os) fun e w'' => e = .returned (.int .i64 s0) ∧ ∃ p : Regrown, w'' = grow (redrawn W p.d) p.os := fun d os =>
    Calls.regrown_of ((HQ.out _).mono fun _ _ ⟨he, hw⟩ => ⟨he, by rw [← hw]; exact Below.refl _ _⟩)
  have CA := Lib.hid cA; clear cA
  have CB := Lib.hid cB; clear cB
  have CC := Lib.hid cC; clear cC
  refine wp_region_quiet_below (by kernel_rfl) (by kernel_rfl) ?_
  repeat (quiet_step (first | with_reducible exact CA.out _ _ | with_reducible exact CB.out _ _ | with_reducible exact CC.out _ _))
  refine wpQuiet_nil ?_
  intro _ hw'
  obtain ⟨⟨dq, osq⟩, hw''⟩ := hw'
  subst hw''
  clear k0 k1 k2 k3
  have hT1 := hT.next (below_regrown W dq osq)
  clear CA CB CC hT
  have hs : (s0 = r ∧ r ≠ 0) ∨ (s0 = 0 ∧ ∃ J, J ≤ m ∧ (∀ k, k < J → f k = g k) ∧ ((r = 0 ∧ J = m) ∨ (J < m ∧ f J ≠ g J ∧ r = cwords (f J) (g J)))) := by
    rw [← HS0.out]
    rcases HR.out with ⟨h, rfl⟩ | ⟨h, rfl⟩ | ⟨h, hj⟩
    · left; rw [if_pos h]; exact ⟨rfl, by decide⟩
    · left; rw [if_neg (by omega), if_pos h]; exact ⟨rfl, by decide⟩
    · right; rw [if_neg (by omega), if_neg (by omega)]; exact ⟨rfl, hj⟩
  rcases hs with ⟨rfl, hne⟩ | ⟨rfl, J, hJ, hz, hj⟩
  · have hz : (s0 == 0) = false := beq_false_of_ne hne
    clear hne
    go_wp2_with fail
    go_loopw [6, 7] (fun o i wr => o = .int .i64 s0 ∧ i = .int .i64 0 ∧ Two w wr N N A B m ca m cb) (fun _ _ _ => 0)
    case atStart => exact ⟨rfl, rfl, hT1⟩
    case round =>
      clear hT1
      obtain ⟨rfl, rfl, hT⟩ := hrel
      go_wp2_with fail
      go_ret2
      exact ⟨rfl, hT.b⟩
  · have HZ := Lib.hid hz; clear hz
    have HJ := Lib.hid hj; clear hj
    go_wp2_with fail
    go_loopw [6, 7] (fun o i wr => ∃ (K : Nat) (s : Int), o = .int .i64 s ∧ i = .int .i64 K ∧ Hid ((s = 0 ∧ K ≤ J) ∨ (s = r ∧ r ≠ 0)) ∧ Two w wr N N A B m ca m cb) (fun o i _ => if intOf o = 0 then m + 1 - (intOf i).toNat else 0)
    case atStart => exact ⟨0, 0, rfl, rfl, Or.inl ⟨rfl, by omega⟩, hT1⟩
    case round =>
      clear hT1
      obtain ⟨K, s, rfl, rfl, hS, hT⟩ := hrel
      rcases hS.out with ⟨rfl, hK⟩ | ⟨rfl, hne⟩
      · have c1 := hT.s.c1
        have d1 := hT.t.c1
        have HA2 := HA.out.below hT.b
        have HB2 := HB.out.below hT.b
        by_cases hlt : K < m
        · obtain ⟨b1, o1, rfl, hb1, hc1⟩ := HA2.2 (by omega)
          obtain ⟨b2, o2, rfl, hb2, hc2⟩ := HB2.2 (by omega)
          have x1 := hc1 K hlt
          have x2 := hc2 K hlt
          have hf64 := HA2.1 K hlt
          have hg64 := HB2.1 K hlt
          clear hc1 hc2 HA2 HB2
          have hi0 : (0 : Int) ≤ (K : Int) := by omega
          have hi1 : (K : Int) < (m : Int) := by omega
          have hd : decide ((K : Int) < (m : Int)) = true := decide_eq_true hi1
          go_wp2_with fail
          go_quiet ((go_at_call 66; exact Calls.quiet_of_same (flip_same (cmpW_any _ _ _ hf64 hg64))))
          go_wp2_with fail
          go_roundw
          case rel =>
            refine ⟨K + 1, cwords (f K) (g K), rfl, by go_num, ?_, hT.drewN _⟩
            by_cases hKJ : K < J
            · left; rw [HZ.out K hKJ]; exact ⟨cwords_same _, by omega⟩
            · obtain rfl : K = J := by omega
              rcases HJ.out with ⟨_, h⟩ | ⟨_, hne, rfl⟩
              · omega
              · right; exact ⟨rfl, by rcases cwords_ne hne with h | h <;> rw [h] <;> decide⟩
          case measure =>
            simp [intOf]
            by_cases h0 : cwords (f K) (g K) = 0
            · rw [if_pos h0]; omega
            · rw [if_neg h0]; omega
        · have hd : decide ((K : Int) < (m : Int)) = false := decide_eq_false (by omega)
          have hKJ : K = J := by omega
          have hr0 : r = 0 := by
            rcases HJ.out with ⟨h, _⟩ | ⟨h, _⟩
            · exact h
            · omega
          subst hr0
          have HKJ := Lib.hid hKJ; clear hKJ
          clear HA2 HB2
          go_wp2_with fail
          go_ret2
          exact ⟨rfl, hT.b⟩
      · have hz : (s == 0) = false := beq_false_of_ne hne
        clear hne
        go_wp2_with fail
        go_ret2
        exact ⟨rfl, hT.b⟩
end Go.Proofs.YtijghglppgihmaaDoor
