/- The reference's Capacity. -/
import Derived.Test.YtjdceafkcakbjaaFRefD
import Derived.Lib.QuietBelow
namespace Go.Proofs.Ytjdceafkcakbjaa
open Go.RowKit Go.Sort
set_option maxRecDepth 100000 in
set_option maxHeartbeats 4000000 in
theorem refCap_any (n m c : Nat) (A : Option Addr) (E : Nat → EdgeD) (B : Option Addr) (lb cb : Nat) (f : Nat → Nat) (w : World) (h : Edges w A m E) (hv : VNet n m E) (hB : Wds w B lb f) (hf : lb = (n + 63) / 64) :
    Calls Try.prog 25 #[.agg #[.int .i64 n, .slice A m c], .agg #[.int .i64 n, .slice B lb cb]] w fun e w' => e = .returned (.int .i64 ((netOf n m E).capS (bt f))) ∧ Below w.heap.size w w' := by
  have HH := Lib.hid h; clear h
  have hm := hv.2.2.1
  have hn5 : n ≤ 512 := by have := hv.2.1; omega
  have HV := Lib.hid hv; clear hv
  have HW := Lib.hid hB; clear hB
  have HF := Lib.hid hf; clear hf
  have n0 := (netAt_new w n A m c).alloc (.cells #[.int .i64 n, .slice B lb cb] 28)
  have s0 := setAt_new (w.alloc (.cells #[.int .i64 n, .slice A m c] 24)) n B lb cb
  rw [show (w.alloc (.cells #[.int .i64 n, .slice A m c] 24)).heap.size = w.heap.size + 1 by simp] at s0
  have b0 := (below_new w (.cells #[.int .i64 n, .slice A m c] 24)).alloc (below_new w _).size (.cells #[.int .i64 n, .slice B lb cb] 28)
  go_enter Try.func25, Try.ntmps25
  go_wp2_with fail
  go_loopw [5, 6] (fun x i wr => ∃ K : Nat, K ≤ m ∧ i = .int .i64 K ∧ x = .int .i64 ((netOf n m E).capK (bt f) K) ∧ NetAt wr w.heap.size n A m c ∧ SetAt wr (w.heap.size + 1) n B lb cb ∧ Below w.heap.size w wr) (fun _ i _ => m - (intOf i).toNat)
  case atStart => exact ⟨0, by omega, rfl, rfl, n0, s0, b0⟩
  case round =>
    clear n0 s0 b0
    obtain ⟨K, hK, rfl, rfl, hN, hS, hB⟩ := hrel
    have c1 := hN.c1
    by_cases hlt : K < m
    · obtain ⟨b, off, rfl, hbl, hcz⟩ := (HH.out.below hB) (by omega)
      obtain ⟨x0, x1, x2⟩ := hcz K hlt
      clear hcz
      have hfn := HV.out.ok.fr K hlt
      have htn := HV.out.ok.tt K hlt
      rw [HV.out.fr hlt] at x0
      rw [HV.out.tt hlt] at x1
      have hcc : 0 ≤ (E K).c ∧ (E K).c ≤ 1125899906842624 := (HV.out.2.2.2 K hlt).2
      have hbd := Net.capK_bound (netOf n m E) HV.out.ok (bt f) (K := K) (by exact hK)
      have hstep : Hid ((netOf n m E).capK (bt f) (K + 1) = (netOf n m E).capK (bt f) K + (if bt f ((netOf n m E).fr K) = true ∧ bt f ((netOf n m E).tt K) = false then (E K).c else 0)) := rfl
      replace hfn : (netOf n m E).fr K < n := hfn
      replace htn : (netOf n m E).tt K < n := htn
      have hwrap : IntKind.i64.wrap ((K : Int) + 1) = (K : Int) + 1 := IntWalk.i64_in _ (by omega)
      generalize (netOf n m E).capK (bt f) K = S at *
      generalize (netOf n m E).fr K = fr at *
      generalize (netOf n m E).tt K = t at *
      generalize (E K).c = ec at *
      have hw1 : IntKind.i64.wrap (S + ec) = S + ec := IntWalk.i64_in _ (by omega)
      obtain ⟨v1, hv1⟩ : ∃ v1, bt f fr = v1 := ⟨_, rfl⟩
      obtain ⟨v2, hv2⟩ : ∃ v2, bt f t = v2 := ⟨_, rfl⟩
      have hst2 : Hid ((netOf n m E).capK (bt f) (K + 1) = S + (if v1 = true ∧ v2 = false then ec else 0)) := by have := hstep.out; rw [hv1, hv2] at this; exact this
      have CA := Lib.hid (fun d os => Calls.regrown_of (refHas_any n n fr B lb cb f v1 (grow (redrawn wr d) os) (HW.out.below (below_next hB (below_regrown wr d os))) HF.out hn5 hfn hv1))
      have CB := Lib.hid (fun d os => Calls.regrown_of (refHas_any n n t B lb cb f v2 (grow (redrawn wr d) os) (HW.out.below (below_next hB (below_regrown wr d os))) HF.out hn5 htn hv2))
      clear hv1 hv2 hstep
      go_upto_region 5 with fail
      have k1 := cell_regrown hN.c1
      have k2 := cell_regrown hS.c0
      have k3 := cell_regrown hS.c1
      have k4 := cell_regrown x0
      have k5 := cell_regrown x1
      clear c1
      cases v1 with
      | false =>
        have hz : Hid ((netOf n m E).capK (bt f) (K + 1) = S) := by show _ = _; have := hst2.out; simpa using this
        clear hst2
        refine wp_region_quiet_below (by kernel_rfl) (by kernel_rfl) ?_
        repeat (first | go_big_quiet_step (first | with_reducible exact CA.out _ _ | with_reducible exact CB.out _ _) | quiet_step (first | with_reducible exact CA.out _ _ | with_reducible exact CB.out _ _))
        refine wpQuiet_nil ?_
        intro _ hw'
        obtain ⟨⟨dq, osq⟩, hw''⟩ := hw'
        subst hw''
        clear k1 k2 k3 k4 k5
        have bR := below_regrown wr dq osq
        have hN2 := hN.below bR
        have hS2 := hS.below bR
        have B2 := below_next hB bR
        have c1 := hN2.c1
        have z2 := (bR.cell (p := ⟨b, off + K * 3 + 2, none⟩) hbl).trans x2
        clear CA CB x0 x1 x2 hN hS hB bR
        generalize grow (redrawn wr dq) osq = W2 at *
        go_wp2_with fail
        go_roundw
        case rel => exact ⟨K + 1, by omega, by go_num, by rw [hz.out], hN2, hS2, B2⟩
        case measure => simp [intOf]; omega
      | true =>
        cases v2 with
        | false =>
          have hz : Hid ((netOf n m E).capK (bt f) (K + 1) = S + ec) := by show _ = _; have := hst2.out; simpa using this
          clear hst2
          refine wp_region_quiet_below (by kernel_rfl) (by kernel_rfl) ?_
          repeat (first | go_big_quiet_step (first | with_reducible exact CA.out _ _ | with_reducible exact CB.out _ _) | quiet_step (first | with_reducible exact CA.out _ _ | with_reducible exact CB.out _ _))
          refine wpQuiet_nil ?_
          intro _ hw'
          obtain ⟨⟨dq, osq⟩, hw''⟩ := hw'
          subst hw''
          clear k1 k2 k3 k4 k5
          have bR := below_regrown wr dq osq
          have hN2 := hN.below bR
          have hS2 := hS.below bR
          have B2 := below_next hB bR
          have c1 := hN2.c1
          have z2 := (bR.cell (p := ⟨b, off + K * 3 + 2, none⟩) hbl).trans x2
          clear CA CB x0 x1 x2 hN hS hB bR
          generalize grow (redrawn wr dq) osq = W2 at *
          go_wp2_with fail
          go_roundw
          case rel => exact ⟨K + 1, by omega, by go_num, by rw [hz.out], hN2, hS2, B2⟩
          case measure => simp [intOf]; omega
        | true =>
          have hz : Hid ((netOf n m E).capK (bt f) (K + 1) = S) := by show _ = _; have := hst2.out; simpa using this
          clear hst2
          refine wp_region_quiet_below (by kernel_rfl) (by kernel_rfl) ?_
          repeat (first | go_big_quiet_step (first | with_reducible exact CA.out _ _ | with_reducible exact CB.out _ _) | quiet_step (first | with_reducible exact CA.out _ _ | with_reducible exact CB.out _ _))
          refine wpQuiet_nil ?_
          intro _ hw'
          obtain ⟨⟨dq, osq⟩, hw''⟩ := hw'
          subst hw''
          clear k1 k2 k3 k4 k5
          have bR := below_regrown wr dq osq
          have hN2 := hN.below bR
          have hS2 := hS.below bR
          have B2 := below_next hB bR
          have c1 := hN2.c1
          have z2 := (bR.cell (p := ⟨b, off + K * 3 + 2, none⟩) hbl).trans x2
          clear CA CB x0 x1 x2 hN hS hB bR
          generalize grow (redrawn wr dq) osq = W2 at *
          go_wp2_with fail
          go_roundw
          case rel => exact ⟨K + 1, by omega, by go_num, by rw [hz.out], hN2, hS2, B2⟩
          case measure => simp [intOf]; omega
    · obtain rfl : K = m := by omega
      go_wp2_with fail
      go_ret
      exact ⟨rfl, hB⟩
end Go.Proofs.Ytjdceafkcakbjaa
