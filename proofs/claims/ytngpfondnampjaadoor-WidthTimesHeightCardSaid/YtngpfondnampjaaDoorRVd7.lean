/- The reference of layer 7: Valid. -/
import Derived.Test.YtngpfondnampjaaDoorRWid
namespace Go.Proofs.YtngpfondnampjaaDoor
open Go.RowKit Go.Sort
def bad3 (T : Nat → Nat → Bool) (i j k : Nat) : Bool := T i j && (T j k && !T i k)
theorem pok_bad {n : Nat} {T : Nat → Nat → Bool} : (∀ i, i < n → POk n T i) ↔ ∀ i, i < n → T i i = false ∧ ∀ j, j < n → ∀ k, k < n → bad3 T i j k = false := by
  constructor
  · intro h i hi
    refine ⟨(h i hi).1, fun j hj k hk => ?_⟩
    unfold bad3
    cases h1 : T i j with
    | false => rfl
    | true =>
      cases h2 : T j k with
      | false => rfl
      | true => rw [(h i hi).2 j hj h1 k hk h2]; rfl
  · intro h i hi
    refine ⟨(h i hi).1, fun j hj h1 k hk h2 => ?_⟩
    have := (h i hi).2 j hj k hk
    unfold bad3 at this
    rw [h1, h2] at this
    cases h3 : T i k with
    | true => rfl
    | false => rw [h3] at this; cases this
set_option maxRecDepth 100000 in
set_option maxHeartbeats 8000000 in
theorem rvalid7_any (A : Option Addr) (n c : Nat) (R : Nat → RowD) (v : Bool) (w : World) (h : Rel w A n R) (hvv : v = true ↔ POrd n R) :
    Calls Tryd.prog 11 #[.agg #[.slice A n c]] w fun e w' => e = .returned (.bool v) ∧ Below w.heap.size w w' := by
  have HH := Lib.hid h
  have HVV := Lib.hid hvv
  have b0 := below_new w (.cells #[.slice A n c] 24)
  have r0 := relAt_new w A n c
  have c0 := r0.c0
  clear h hvv
  by_cases hv : VRel n R
  · have HC := Lib.hid (refValid_yes A n c R _ (HH.out.below b0) hv)
    have hn := hv.1
    have HV := Lib.hid hv
    have HVB : Hid (v = true ↔ ∀ i, i < n → mat R i i = false ∧ ∀ j, j < n → ∀ k, k < n → bad3 (mat R) i j k = false) := Lib.hid (HVV.out.trans ⟨fun h => pok_bad.1 h.2, fun h => ⟨hv, pok_bad.2 h⟩⟩)
    clear hv HVV
    go_enter Tryd.func11, Tryd.ntmps11
    go_wp2_with fail
    refine HC.out.mono ?_; rintro e w2 ⟨rfl, b2⟩
    have r2 := r0.below b2
    have B2 := below_next b0 b2
    clear HC c0 r0 b0 b2
    have c0 := r2.c0
    have HTB := Lib.hid (rtable_any A n c R w2 (HH.out.below B2) HV.out)
    unfold TabOk at HTB
    go_wp2_with fail
    refine HTB.out.mono ?_; rintro e w3 ⟨vt, Bl, Cl, rfl, hBT, b3⟩
    obtain ⟨At, ct, rfl⟩ := hBT.form
    have HT := Lib.hid hBT
    have B3 := below_next B2 b3
    clear HTB c0 r2 b3 hBT
    generalize mat R = T at *
    have HST : Hid (∀ i, i < n → ∀ j, j < n → ∀ u, Below w3.heap.size w3 u → ∃ g, At = some ⟨g, 0, none⟩ ∧ u.cell? ⟨g, i, none⟩ = some (.slice (some ⟨Bl i, 0, none⟩) n (Cl i)) ∧ u.cell? ⟨Bl i, j, none⟩ = some (.bool (T i j))) := Lib.hid fun i hi j hj u hu => by
      have hb := HT.out.below hu
      obtain ⟨g, hA, _, x0⟩ := hb.cell hi
      exact ⟨g, hA, x0, (hb.r i hi).cell hj⟩
    go_wp2_with fail
    go_loopw [4, 5, 6] (fun i _ _ wr => ∃ K : Nat, K ≤ n ∧ i = .int .i64 K ∧ Hid (∀ a, a < K → T a a = false ∧ ∀ b, b < n → ∀ d, d < n → bad3 T a b d = false) ∧ Below w3.heap.size w3 wr) (fun i _ _ _ => n - (intOf i).toNat)
    case atStart => exact ⟨0, Nat.zero_le _, rfl, Lib.hid (fun a ha => absurd ha (Nat.not_lt_zero _)), Below.refl _ _⟩
    case round =>
      obtain ⟨K, hK, rfl, hQ, hB⟩ := hrel
      by_cases hlt : K < n
      · obtain ⟨g, rfl, x0, x1⟩ := HST.out K hlt K hlt _ hB
        obtain ⟨v0, hv0⟩ : ∃ v, T K K = v := ⟨_, rfl⟩
        rw [hv0] at x1
        have HV0 := Lib.hid hv0
        clear hv0
        cases v0 with
        | true =>
          obtain rfl : v = false := by
            cases hc : v with
            | false => rfl
            | true => have := (HVB.out.1 hc K hlt).1; rw [HV0.out] at this; cases this
          go_wp2_with fail
          go_ret
          exact ⟨rfl, below_next B3 hB⟩
        | false =>
          go_wp2_with fail
          clear x0 x1
          go_loopw [5, 6] (fun j _ wr => ∃ D : Nat, D ≤ n ∧ j = .int .i64 D ∧ Hid (∀ b, b < D → ∀ d, d < n → bad3 T K b d = false) ∧ Below w3.heap.size w3 wr) (fun j _ _ => n - (intOf j).toNat)
          case atStart => exact ⟨0, Nat.zero_le _, rfl, Lib.hid (fun a ha => absurd ha (Nat.not_lt_zero _)), hB⟩
          case round =>
            clear hB
            obtain ⟨D, hD, rfl, hQ2, hB⟩ := hrel
            by_cases hlt2 : D < n
            · go_wp2_with fail
              go_loopw [6] (fun k wr => ∃ F : Nat, F ≤ n ∧ k = .int .i64 F ∧ Hid (∀ d, d < F → bad3 T K D d = false) ∧ Below w3.heap.size w3 wr) (fun k _ => n - (intOf k).toNat)
              case atStart => exact ⟨0, Nat.zero_le _, rfl, Lib.hid (fun a ha => absurd ha (Nat.not_lt_zero _)), hB⟩
              case round =>
                clear hB
                obtain ⟨F, hF, rfl, hQ3, hB⟩ := hrel
                by_cases hlt3 : F < n
                · obtain ⟨g1, e1, x0, x1⟩ := HST.out K hlt D hlt2 _ hB
                  injection e1 with e1
                  injection e1 with e1 _ _
                  subst e1
                  obtain ⟨g2, e2, y0, y1⟩ := HST.out D hlt2 F hlt3 _ hB
                  injection e2 with e2
                  injection e2 with e2 _ _
                  subst e2
                  obtain ⟨g3, e3, _, z1⟩ := HST.out K hlt F hlt3 _ hB
                  clear e3
                  obtain ⟨v1, hv1⟩ : ∃ v, T K D = v := ⟨_, rfl⟩
                  obtain ⟨v2, hv2⟩ : ∃ v, T D F = v := ⟨_, rfl⟩
                  obtain ⟨v3, hv3⟩ : ∃ v, T K F = v := ⟨_, rfl⟩
                  have HBD : Hid (bad3 T K D F = (v1 && (v2 && !v3))) := Lib.hid (by unfold bad3; rw [hv1, hv2, hv3])
                  rw [hv1] at x1
                  rw [hv2] at y1
                  rw [hv3] at z1
                  have HNX : Hid (bad3 T K D F = false → ∀ d, d < F + 1 → bad3 T K D d = false) := Lib.hid fun h d hd => by
                    by_cases e : d = F
                    · rw [e]; exact h
                    · exact hQ3.out d (by omega)
                  have HNO : Hid (bad3 T K D F = true → v = false) := Lib.hid fun h => by
                    cases hc : v with
                    | false => rfl
                    | true => have := (HVB.out.1 hc K hlt).2 D hlt2 F hlt3; rw [h] at this; cases this
                  clear hv1 hv2 hv3
                  cases v1 with
                  | false =>
                    have h2 := Lib.hid (HNX.out (by rw [HBD.out]; rfl))
                    go_wp2_with fail
                    go_roundw
                    case rel => exact ⟨F + 1, hlt3, by go_num, h2, hB⟩
                    case measure => simp [intOf]; omega
                  | true =>
                    cases v2 with
                    | false =>
                      have h2 := Lib.hid (HNX.out (by rw [HBD.out]; rfl))
                      go_wp2_with fail
                      go_roundw
                      case rel => exact ⟨F + 1, hlt3, by go_num, h2, hB⟩
                      case measure => simp [intOf]; omega
                    | true =>
                      cases v3 with
                      | true =>
                        have h2 := Lib.hid (HNX.out (by rw [HBD.out]; rfl))
                        go_wp2_with fail
                        go_roundw
                        case rel => exact ⟨F + 1, hlt3, by go_num, h2, hB⟩
                        case measure => simp [intOf]; omega
                      | false =>
                        obtain rfl : v = false := HNO.out (by rw [HBD.out]; rfl)
                        go_wp2_with fail
                        go_ret
                        exact ⟨rfl, below_next B3 hB⟩
                · obtain rfl : F = n := by omega
                  have h2 : Hid (∀ b, b < D + 1 → ∀ d, d < F → bad3 T K b d = false) := Lib.hid fun b hb => by
                    by_cases e : b = D
                    · rw [e]; exact hQ3.out
                    · exact hQ2.out b (by omega)
                  go_wp2_with fail
                  go_roundw
                  case rel => exact ⟨D + 1, hlt2, by go_num, h2, hB⟩
                  case measure => simp [intOf]; omega
            · obtain rfl : D = n := by omega
              have h2 : Hid (∀ a, a < K + 1 → T a a = false ∧ ∀ b, b < D → ∀ d, d < D → bad3 T a b d = false) := Lib.hid fun a ha => by
                by_cases e : a = K
                · rw [e]; exact ⟨HV0.out, hQ2.out⟩
                · exact hQ.out a (by omega)
              go_wp2_with fail
              go_roundw
              case rel => exact ⟨K + 1, hlt, by go_num, h2, hB⟩
              case measure => simp [intOf]; omega
      · obtain rfl : K = n := by omega
        obtain rfl : v = true := HVB.out.2 hQ.out
        go_wp2_with fail
        go_ret
        exact ⟨rfl, below_next B3 hB⟩
  · have HC := Lib.hid (refValid_no A n c R _ (HH.out.below b0) hv)
    obtain rfl : v = false := by
      cases hc : v with
      | false => rfl
      | true => exact absurd (HVV.out.1 hc).1 hv
    clear hv
    go_enter Tryd.func11, Tryd.ntmps11
    go_wp2_with fail
    refine HC.out.mono ?_; rintro e w2 ⟨rfl, b2⟩
    go_wp2_with fail
    go_ret
    exact ⟨rfl, below_next b0 b2⟩
end Go.Proofs.YtngpfondnampjaaDoor
