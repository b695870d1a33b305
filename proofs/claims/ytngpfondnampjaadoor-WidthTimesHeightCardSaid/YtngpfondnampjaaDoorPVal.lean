/- Package poset: members, Valid. -/
import Derived.Test.YtngpfondnampjaaDoorRMak3
import Derived.Test.YtngpfondnampjaaDoorBitS
import Derived.Lib.QuietBelow
import Derived.StillTailTactics
import Derived.BigQuiet
import Derived.BigRegion
import Derived.Deep.CutRange
import Derived.Deep.RegionLaw
namespace Go.Proofs.YtngpfondnampjaaDoor
open Go.RowKit Go.Sort
theorem pmembers_any (n : Nat) (r : RowD) (w : World) (ha : Wds w r.A r.l r.f) (hv : VRow n r) (hT : Tab w) :
    Calls Tryd.prog 61 #[.agg #[.int .i64 r.N, .slice r.A r.l r.c]] w (RowOut w ((List.range n).filter (bt r.f))) := by
  have hm := mem_row hv
  obtain ⟨N, A, l, c, f⟩ := r
  have hN : N = n := hv.1
  subst hN
  have HM := fun (w' : World) (h1 : Wds w' A l f) (h2 : Tab w') => members_any n A l c f w' h1 hv.2 h2
  replace hm : mem f (64 * l) = (List.range n).filter (bt f) := hm
  rw [hm] at HM
  have HMM := Lib.hid HM; clear HM hm hv
  show Calls Tryd.prog 61 #[.agg #[.int .i64 n, .slice A l c]] w (RowOut w ((List.range n).filter (bt f)))
  have HA : Hid (Wds w A l f) := ha
  clear ha
  have hO := one_new w n A l c
  have c0 := hO.s.c0
  have c1 := hO.s.c1
  generalize (List.range n).filter (bt f) = L at *
  go_enter Tryd.func61, Tryd.ntmps61
  go_wp2_with fail
  refine (HMM.out _ (HA.out.below hO.b) (hT.below hO.b)).mono ?_; rintro e w2 ⟨v, rfl, hown, b2⟩
  go_wp2_with fail
  go_ret
  exact ⟨v, rfl, own_mono hown hO.b.size, (hO.next b2).b⟩
/- an order: nothing is less than itself, and what is less than a less one is less -/
def POk (n : Nat) (T : Nat → Nat → Bool) (i : Nat) : Prop := T i i = false ∧ ∀ j, j < n → T i j = true → ∀ k, k < n → T j k = true → T i k = true
def POrd (n : Nat) (R : Nat → RowD) : Prop := VRel n R ∧ ∀ i, i < n → POk n (mat R) i
theorem psub {n l : Nat} {f g : Nat → Nat} (hf : Vld (n : Int) l f) : Sub f g l ↔ ∀ k, k < n → bt f k = true → bt g k = true := by
  have h1 := hf.1
  have h2 := hf.2.2.1
  have h3 := hf.2.2.2
  simp only [Int.toNat_natCast] at h2 h3
  constructor
  · intro h k hk hb
    exact h k (by omega) hb
  · intro h i hi hb
    by_cases hk : i < n
    · exact h i hk hb
    · rw [h3 i (by omega) hi] at hb; cases hb
theorem pvalid_bad (A : Option Addr) (n c : Nat) (R : Nat → RowD) (w : World) (h : Rel w A n R) (hn : n ≤ 1000000) (hv : ¬ VRel n R) :
    Calls Tryd.prog 39 #[.agg #[.slice A n c]] w fun e w' => e = .returned (.bool false) ∧ Below w.heap.size w w' := by
  have HH := Lib.hid h; clear h
  have HV := Lib.hid hv; clear hv
  have b0 : Below w.heap.size w (w.alloc (.cells #[.slice A n c] 24)) := (Below.refl _ _).alloc (Nat.le_refl _) _
  have c0 := (relAt_new w A n c).c0
  go_enter Tryd.func39, Tryd.ntmps39
  go_wp2_with fail
  refine (rvalid_no A n c R _ (HH.out.below b0) hn HV.out).mono ?_; rintro e w2 ⟨rfl, b2⟩
  go_wp2_with fail
  go_ret
  exact ⟨rfl, below_next b0 b2⟩
set_option maxRecDepth 100000 in
set_option maxHeartbeats 4000000 in
theorem pvalid_ok (A : Option Addr) (n c : Nat) (R : Nat → RowD) (v : Bool) (w : World) (h : Rel w A n R) (hv : VRel n R) (hT : Tab w) (hvv : v = true ↔ ∀ i, i < n → POk n (mat R) i) :
    Calls Tryd.prog 39 #[.agg #[.slice A n c]] w fun e w' => e = .returned (.bool v) ∧ Below w.heap.size w w' := by
  have hn := hv.1
  have HH := Lib.hid h; clear h
  have HV := Lib.hid hv; clear hv
  have HVV := Lib.hid hvv; clear hvv
  have b0 : Below w.heap.size w (w.alloc (.cells #[.slice A n c] 24)) := (Below.refl _ _).alloc (Nat.le_refl _) _
  have r0 := relAt_new w A n c
  have c0 := r0.c0
  go_enter Tryd.func39, Tryd.ntmps39
  go_wp2_with fail
  refine (rvalid_yes A n c R _ (HH.out.below b0) HV.out).mono ?_; rintro e w2 ⟨rfl, b2⟩
  have r2 := r0.below b2
  have B2 := below_next b0 b2
  clear r0 b0 b2 c0
  have c0 := r2.c0
  go_wp2_with fail
  clear c0
  go_loopw [13] (fun i wr => ∃ K : Nat, K ≤ n ∧ i = .int .i64 K ∧ Hid (∀ i, i < K → POk n (mat R) i) ∧ RelAt wr w.heap.size A n c ∧ Below w.heap.size w wr) (fun i _ => n - (intOf i).toNat)
  case atStart => exact ⟨0, Nat.zero_le _, rfl, Lib.hid (fun _ h => absurd h (Nat.not_lt_zero _)), r2, B2⟩
  case round =>
    clear r2 B2
    obtain ⟨K, hK, rfl, hP, hr, hB⟩ := hrel
    by_cases hlt : K < n
    · obtain ⟨b, off, rfl, hbl, hcz⟩ := (HH.out.below hB) (by omega)
      obtain ⟨x0, x1, xw⟩ := hcz K hlt
      have hvk := HV.out.2 K hlt
      have hwrap : IntKind.i64.wrap ((K : Int) + 1) = (K : Int) + 1 := IntWalk.i64_in _ (by omega)
      obtain ⟨r, hrr⟩ : ∃ r, r = R K := ⟨_, rfl⟩
      rw [← hrr] at x0 x1 xw hvk
      have HRR := Lib.hid hrr
      obtain ⟨N1, A1, l1, c1, f1⟩ := r
      have hN : N1 = n := hvk.1
      have hvk2 : Vld (n : Int) l1 f1 := hvk.2
      subst hN
      replace x0 : wr.cell? ⟨b, off + K * 2, none⟩ = some (.int .i64 (n : Int)) := x0
      replace x1 : wr.cell? ⟨b, off + K * 2 + 1, none⟩ = some (.slice A1 l1 c1) := x1
      replace xw : Wds wr A1 l1 f1 := xw
      have hO := one_new wr n A1 l1 c1
      have HW := Lib.hid (xw.below hO.b)
      have hr1 := hr.below hO.b
      have hB1 := below_next hB hO.b
      have hbw : b < wr.heap.size := hbl
      have HVK := Lib.hid hvk2
      clear hcz hrr hvk hvk2 xw hr hB
      go_upto_region 6 with fail
      clear x0 x1
      generalize wr.alloc (.cells #[.int .i64 (n : Int), .slice A1 l1 c1] 28) = w3 at *
      have c0 := hO.s.c0
      have c1' := hO.s.c1
      obtain ⟨vi, hvi⟩ : ∃ x, bt f1 K = x := ⟨_, rfl⟩
      have HI := Lib.hid (has_in n K A1 l1 c1 f1 vi w3 HW.out HVK.out hlt hvi)
      have hmKK : Hid (mat R K K = vi) := by show bt (R K).f K = vi; rw [← HRR.out]; exact hvi
      clear hvi
      go_wp2_with fail
      refine HI.out.mono ?_; rintro e w4 ⟨rfl, b4⟩
      have hO4 := hO.next b4
      have hr4 := hr1.below b4
      have hB4 := below_next hB1 b4
      have HW4 := Lib.hid (HW.out.below b4)
      clear hO hr1 hB1 b4 HW c0 c1' HI
      cases vi with
      | true =>
        have hv0 : v = false := by
          cases hc : v with
          | false => rfl
          | true => have := (HVV.out.1 hc K hlt).1; rw [hmKK.out] at this; cases this
        subst hv0
        go_wp2_with fail
        go_ret
        exact ⟨rfl, hB4⟩
      | false =>
        have c0 := hO4.s.c0
        have c1' := hO4.s.c1
        have HM := Lib.hid (pmembers_any n ⟨n, A1, l1, c1, f1⟩ w4 HW4.out ⟨rfl, HVK.out⟩ (hT.below hB4))
        unfold RowOut at HM
        have hrow : Hid (∀ j, j ∈ (List.range n).filter (bt f1) ↔ j < n ∧ mat R K j = true) := Lib.hid fun j => by
          rw [List.mem_filter, List.mem_range]
          show _ ↔ j < n ∧ bt (R K).f j = true
          rw [← HRR.out]
        have hll : ((List.range n).filter (bt f1)).length ≤ n := by
          have := List.length_filter_le (bt f1) (List.range n)
          simpa using this
        generalize (List.range n).filter (bt f1) = L at *
        go_wp2_with fail
        refine HM.out.mono ?_; rintro e w5 ⟨vL, rfl, hown, b5⟩
        obtain ⟨AL, cL, rfl, hIL, _⟩ := own_ints hown
        have hO5 := hO4.next b5
        have hr5 := hr4.below b5
        have hB5 := below_next hB4 b5
        have HW5 := Lib.hid (HW4.out.below b5)
        have HIL := Lib.hid hIL
        clear hO4 hr4 hB4 b5 HW4 c0 c1' HM hown hIL
        go_wp2_with fail
        go_loopw [24] (fun i w6 => ∃ J : Nat, J ≤ L.length ∧ i = .int .i64 J ∧ Hid (∀ q, q < J → ∀ k, k < n → mat R (L.getD q 0) k = true → mat R K k = true) ∧ Below w5.heap.size w5 w6) (fun i _ => L.length - (intOf i).toNat)
        case atStart => exact ⟨0, Nat.zero_le _, rfl, Lib.hid (fun _ h => absurd h (Nat.not_lt_zero _)), Below.refl _ _⟩
        case round =>
          obtain ⟨J, hJ, rfl, hQ, hB6⟩ := hrel
          by_cases hlt2 : J < L.length
          · obtain ⟨bL, oL, rfl, hbL, hcL⟩ := (HIL.out.below hB6) (by omega)
            have y0 := hcL J hlt2
            clear hcL
            have hmem : L.getD J 0 ∈ L := by rw [List.getD_eq_getElem?_getD, List.getElem?_eq_getElem hlt2]; exact List.getElem_mem hlt2
            obtain ⟨hjn, hjm⟩ := (hrow.out _).1 hmem
            unfold gets at y0
            obtain ⟨j, hj⟩ : ∃ j, j = L.getD J 0 := ⟨_, rfl⟩
            rw [← hj] at y0 hjn hjm
            have HJ := Lib.hid hj
            clear hj hmem
            have hwrap2 : IntKind.i64.wrap ((J : Int) + 1) = (J : Int) + 1 := IntWalk.i64_in _ (by omega)
            obtain ⟨b', off', hAA, hbl', hcz'⟩ := (HH.out.below (below_next hB5 hB6)) (by omega)
            have hAe : b' = b ∧ off' = off := by
              simp only [Option.some.injEq, Addr.mk.injEq] at hAA
              exact ⟨hAA.1.symm, hAA.2.1.symm⟩
            obtain ⟨rfl, rfl⟩ := hAe
            obtain ⟨z0, z1, zw⟩ := hcz' j hjn
            have hvj := HV.out.2 j hjn
            obtain ⟨r2, hr2⟩ : ∃ r, r = R j := ⟨_, rfl⟩
            rw [← hr2] at z0 z1 zw hvj
            have HR2 := Lib.hid hr2
            obtain ⟨N2, A2, l2, c2, f2⟩ := r2
            have hN2 : N2 = n := hvj.1
            have hvj2 : Vld (n : Int) l2 f2 := hvj.2
            subst hN2
            replace z0 : wr.cell? ⟨b', off' + j * 2, none⟩ = some (.int .i64 (n : Int)) := z0
            replace z1 : wr.cell? ⟨b', off' + j * 2 + 1, none⟩ = some (.slice A2 l2 c2) := z1
            replace zw : Wds wr A2 l2 f2 := zw
            have hl12 : l1 = l2 := by have h1 := HVK.out.2.2.1; have h2 := hvj2.2.2.1; omega
            subst hl12
            have hW6 := HW5.out.below hB6
            obtain ⟨vs, hvs, hcs⟩ := subset_dec n A2 A1 l1 c2 c1 f2 f1 zw.1 hW6.1 hvj2 HVK.out
            rw [psub hvj2] at hvs
            have HVS : Hid (vs = true ↔ ∀ k, k < n → mat R j k = true → mat R K k = true) := by
              show _ ↔ ∀ k, k < n → bt (R j).f k = true → bt (R K).f k = true
              rw [← HRR.out, ← HR2.out]; exact hvs
            have hO6 := hO5.next hB6
            have hr6 := hr5.below hB6
            have hBB := below_next hB5 hB6
            have hjn2 : j < n := hjn
            have k0 := cell_regrown hr6.c0
            have k1 := cell_regrown z0
            have k2 := cell_regrown z1
            have k3 := cell_regrown hO6.s.c0
            have k4 := cell_regrown hO6.s.c1
            have CA := Lib.hid (fun d os => Calls.regrown_of (hcs (grow (redrawn wr d) os) (zw.below (below_regrown wr d os)) (hW6.below (below_regrown wr d os))))
            clear z0 z1 zw hvs hcs hvj hvj2 hr2 hcz' hW6 hO6 hr6
            go_wp2_with fail
            clear y0
            refine wp_region_quiet_below (by kernel_rfl) (by kernel_rfl) ?_
            repeat (first | go_big_quiet_step (first | with_reducible exact CA.out _ _) | quiet_step (first | with_reducible exact CA.out _ _))
            refine wpQuiet_nil ?_
            intro _ hw'
            obtain ⟨⟨dq, osq⟩, hw''⟩ := hw'
            subst hw''
            clear k0 k1 k2 k3 k4 CA
            have B7 := below_next hB6 (below_regrown wr dq osq)
            cases vs with
            | false =>
              have hv0 : v = false := by
                cases hc : v with
                | false => rfl
                | true =>
                  have := HVS.out.2 fun k hk hjk => (HVV.out.1 hc K hlt).2 j hjn hjm k hk hjk
                  cases this
              subst hv0
              go_wp2_with fail
              go_ret
              exact ⟨rfl, below_next hB5 B7⟩
            | true =>
              have hQ2 : Hid (∀ q, q < J + 1 → ∀ k, k < n → mat R (L.getD q 0) k = true → mat R K k = true) := Lib.hid fun q hq k hk hjk => by
                by_cases e : q = J
                · subst e; rw [← HJ.out] at hjk; exact HVS.out.1 rfl k hk hjk
                · exact hQ.out q (by omega) k hk hjk
              go_wp2_with fail
              go_roundw
              case rel => exact ⟨J + 1, hlt2, by go_num, hQ2, B7⟩
              case measure => simp [intOf]; omega
          · obtain rfl : J = L.length := by omega
            have hP2 : Hid (∀ i, i < K + 1 → POk n (mat R) i) := Lib.hid fun i hi => by
              by_cases e : i = K
              · subst e
                refine ⟨hmKK.out, fun j hj hij k hk hjk => ?_⟩
                obtain ⟨q, hq, e⟩ := List.getElem_of_mem ((hrow.out j).2 ⟨hj, hij⟩)
                refine hQ.out q hq k hk ?_
                rw [List.getD_eq_getElem?_getD, List.getElem?_eq_getElem hq]
                show mat R L[q] k = true
                rw [e]; exact hjk
              · exact hP.out i (by omega)
            have hr6 := hr5.below hB6
            have hBB := below_next hB5 hB6
            go_wp2_with fail
            go_roundw
            case rel => exact ⟨K + 1, hlt, by go_num, hP2, hr6, hBB⟩
            case measure => simp [intOf]; omega
    · obtain rfl : K = n := by omega
      have hv1 : v = true := HVV.out.2 hP.out
      subst hv1
      go_wp2_with fail
      go_ret
      exact ⟨rfl, hB⟩
end Go.Proofs.YtngpfondnampjaaDoor
