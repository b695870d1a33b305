/- The contract of the reference's Compare where the counts are equal. -/
import Derived.Test.YtijghglppgihmaaDoorRefH
namespace Go.Proofs.YtijghglppgihmaaDoor
open Go.RowKit Go.Sort
set_option maxHeartbeats 2000000 in
theorem refCompare_bits (N : Nat) (A B : Option Addr) (m ca cb : Nat) (f g : Nat → Nat) (J : Nat) (r : Int) (w : World) (ha : Wds w A m f) (hb : Wds w B m g) (va : Vld N m f) (vb : Vld N m g)
    (hc : (mem f N).length = (mem g N).length) (hJ : J ≤ N) (hz : ∀ i, i < J → bt f i = bt g i)
    (hr : (r = 0 ∧ J = N) ∨ (r = -1 ∧ J < N ∧ bt f J = true ∧ bt g J = false) ∨ (r = 1 ∧ J < N ∧ bt f J = false ∧ bt g J = true)) :
    Calls Tryd.prog 42 #[.agg #[.int .i64 N, .slice A m ca], .agg #[.int .i64 N, .slice B m cb]] w fun e w' => e = .returned (.int .i64 r) ∧ Below w.heap.size w w' := by
  have h1 := va.2.1
  have h2 := va.2.2.1
  simp only [Int.toNat_natCast] at h2
  have hN64 : N ≤ 64 * m := by omega
  have hm9 : m ≤ 1000 := by omega
  have H2 := Lib.hid h2; clear h2
  have HA := Lib.hid ha; clear ha
  have HB := Lib.hid hb; clear hb
  have VA := Lib.hid va; clear va
  have VB := Lib.hid vb; clear vb
  have HZ := Lib.hid hz; clear hz
  have HR := Lib.hid hr; clear hr
  have hT := two_new w N N A B m ca m cb
  generalize hx : (mem f N).length = x at *
  have HX := Lib.hid hx; clear hx
  have HY := Lib.hid hc.symm; clear hc
  go_enter Tryd.func42, Tryd.ntmps42
  go_wp2_with fail
  generalize (w.alloc (.cells #[.int .i64 N, .slice A m ca] 24)).alloc (.cells #[.int .i64 N, .slice B m cb] 24) = W at *
  have k0 := cell_regrown hT.s.c0
  have k1 := cell_regrown hT.s.c1
  have k2 := cell_regrown hT.t.c0
  have k3 := cell_regrown hT.t.c1
  have cA : ∀ d os, Calls Tryd.prog 39 #[.agg #[.int .i64 N, .slice A m ca]] (grow (redrawn W d) os) fun e w'' => e = .returned (.int .i64 (x : Nat)) ∧ ∃ p : Regrown, w'' = grow (redrawn W p.d) p.os := fun d os => by
    have hc := refCount_yes N A m ca f (grow (redrawn W d) os) (HA.out.below (below_next hT.b (below_regrown W d os))) VA.out; rw [HX.out] at hc; exact Calls.regrown_of hc
  have cB : ∀ d os, Calls Tryd.prog 39 #[.agg #[.int .i64 N, .slice B m cb]] (grow (redrawn W d) os) fun e w'' => e = .returned (.int .i64 (x : Nat)) ∧ ∃ p : Regrown, w'' = grow (redrawn W p.d) p.os := fun d os => by
    have hc := refCount_yes N B m cb g (grow (redrawn W d) os) (HB.out.below (below_next hT.b (below_regrown W d os))) VB.out; rw [HY.out] at hc; exact Calls.regrown_of hc
  have CA := Lib.hid cA; clear cA
  have CB := Lib.hid cB; clear cB
  refine wp_region_quiet_below (by kernel_rfl) (by kernel_rfl) ?_
  repeat (quiet_step (first | with_reducible exact CA.out _ _ | with_reducible exact CB.out _ _))
  refine wpQuiet_nil ?_
  intro _ hw'
  obtain ⟨⟨dq, osq⟩, hw''⟩ := hw'
  subst hw''
  clear k0 k1 k2 k3
  have hT1 := hT.next (below_regrown W dq osq)
  clear CA CB hT
  go_wp2_with fail
  go_loopw [7] (fun i wr => ∃ K : Nat, K ≤ J ∧ i = .int .i64 K ∧ Two w wr N N A B m ca m cb) (fun i _ => J - (intOf i).toNat)
  case atStart => exact ⟨0, by omega, rfl, hT1⟩
  case round =>
    clear hT1
    obtain ⟨K, hK, rfl, hT⟩ := hrel
    have c0 := hT.s.c0
    have c1 := hT.s.c1
    by_cases hlt : K < N
    · have HA2 : Hid (Wds wr A m f) := HA.out.below hT.b
      cases hbf : bt f K
      · have HBf := Lib.hid hbf; clear hbf
        go_wp2_with fail
        refine (bit_any N A m ca f K false _ HA2.out (by omega) hm9 HBf.out).mono ?_; rintro e w2 ⟨rfl, b2⟩
        have hT2 := hT.next b2
        clear c0 c1
        have c0 := hT2.s.c0
        have c1 := hT2.s.c1
        have HA3 : Hid (Wds w2 A m f) := HA.out.below hT2.b
        go_wp2_with fail
        refine (bit_any N A m ca f K false _ HA3.out (by omega) hm9 HBf.out).mono ?_; rintro e w3 ⟨rfl, b3⟩
        have hT3 := hT2.next b3
        clear c0 c1
        have d0 := hT3.t.c0
        have d1 := hT3.t.c1
        have HB3 : Hid (Wds w3 B m g) := HB.out.below hT3.b
        by_cases hKJ : K < J
        · have HBg : Hid (bt g K = false) := (HZ.out K hKJ).symm.trans HBf.out
          go_wp2_with fail
          refine (bit_any N B m cb g K false _ HB3.out (by omega) hm9 HBg.out).mono ?_; rintro e w4 ⟨rfl, b4⟩
          go_wp2_with fail
          go_roundw
          case rel => exact ⟨K + 1, by omega, by go_num, hT3.next b4⟩
          case measure => simp [intOf]; omega
        · obtain rfl : K = J := by omega
          rcases HR.out with ⟨_, h2⟩ | ⟨_, _, h3, _⟩ | ⟨rfl, _, _, h4⟩
          · omega
          · rw [HBf.out] at h3; cases h3
          · have HBg := Lib.hid h4; clear h4
            go_wp2_with fail
            refine (bit_any N B m cb g K true _ HB3.out (by omega) hm9 HBg.out).mono ?_; rintro e w4 ⟨rfl, b4⟩
            go_wp2_with fail
            go_ret
            exact ⟨rfl, (hT3.next b4).b⟩
      · have HBf := Lib.hid hbf; clear hbf
        go_wp2_with fail
        refine (bit_any N A m ca f K true _ HA2.out (by omega) hm9 HBf.out).mono ?_; rintro e w2 ⟨rfl, b2⟩
        have hT2 := hT.next b2
        clear c0 c1
        have d0 := hT2.t.c0
        have d1 := hT2.t.c1
        have HB2 : Hid (Wds w2 B m g) := HB.out.below hT2.b
        by_cases hKJ : K < J
        · have HBg : Hid (bt g K = true) := (HZ.out K hKJ).symm.trans HBf.out
          go_wp2_with fail
          refine (bit_any N B m cb g K true _ HB2.out (by omega) hm9 HBg.out).mono ?_; rintro e w3 ⟨rfl, b3⟩
          have hT3 := hT2.next b3
          clear d0 d1
          have c0 := hT3.s.c0
          have c1 := hT3.s.c1
          have HA3 : Hid (Wds w3 A m f) := HA.out.below hT3.b
          go_wp2_with fail
          refine (bit_any N A m ca f K true _ HA3.out (by omega) hm9 HBf.out).mono ?_; rintro e w4 ⟨rfl, b4⟩
          go_wp2_with fail
          go_roundw
          case rel => exact ⟨K + 1, by omega, by go_num, hT3.next b4⟩
          case measure => simp [intOf]; omega
        · obtain rfl : K = J := by omega
          rcases HR.out with ⟨_, h2⟩ | ⟨rfl, _, _, h4⟩ | ⟨_, _, h3, _⟩
          · omega
          · have HBg := Lib.hid h4; clear h4
            go_wp2_with fail
            refine (bit_any N B m cb g K false _ HB2.out (by omega) hm9 HBg.out).mono ?_; rintro e w3 ⟨rfl, b3⟩
            go_wp2_with fail
            go_ret
            exact ⟨rfl, (hT2.next b3).b⟩
          · rw [HBf.out] at h3; cases h3
    · rcases HR.out with ⟨rfl, h2⟩ | ⟨_, h2, _⟩ | ⟨_, h2, _⟩
      · have HJ := Lib.hid h2; clear h2
        go_wp2_with fail
        go_ret
        exact ⟨rfl, hT.b⟩
      · omega
      · omega
end Go.Proofs.YtijghglppgihmaaDoor
