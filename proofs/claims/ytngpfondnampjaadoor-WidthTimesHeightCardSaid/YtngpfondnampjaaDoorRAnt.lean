/- The reference of layer 7: IsAntichain. -/
import Derived.Test.YtngpfondnampjaaDoorRWid
namespace Go.Proofs.YtngpfondnampjaaDoor
open Go.RowKit Go.Sort
def bad2 (T : Nat → Nat → Bool) (s : Nat → Nat) (i j : Nat) : Bool := bt s i && (bt s j && T i j)
theorem grt_bad {n : Nat} {T : Nat → Nat → Bool} {s : Nat → Nat} : (∀ i, i < n → bt s i = true → grt n T s i = false) ↔ ∀ i, i < n → ∀ j, j < n → bad2 T s i j = false := by
  constructor
  · intro h i hi j hj
    unfold bad2
    cases hb : bt s i with
    | false => rfl
    | true =>
      have := h i hi hb
      unfold grt at this
      rw [List.any_eq_false] at this
      have h2 := this j (List.mem_range.2 hj)
      cases h3 : T i j <;> cases h4 : bt s j <;> simp_all
  · intro h i hi hb
    unfold grt
    rw [List.any_eq_false]
    intro j hj
    have := h i hi j (List.mem_range.1 hj)
    unfold bad2 at this
    cases h3 : T i j <;> cases h4 : bt s j <;> simp_all
set_option maxRecDepth 100000 in
set_option maxHeartbeats 4000000 in
theorem ranti_any (A S : Option Addr) (n c l cs base : Nat) (N : Int) (Bl Cl : Nat → Nat) (T : Nat → Nat → Bool) (s : Nat → Nat) (v : Bool) (w : World) (h : BTab w base (.slice A n c) n n Bl Cl T) (hn : n ≤ 512) (hS : Wds w S l s) (hvv : v = true ↔ AntiP n T N l s) :
    Calls Tryd.prog 16 #[.slice A n c, .agg #[.int .i64 N, .slice S l cs]] w fun e w' => e = .returned (.bool v) ∧ Below w.heap.size w w' := by
  have HT := Lib.hid h
  have HS := Lib.hid hS
  have HVV := Lib.hid hvv
  have b0 := below_new w (.cells #[.int .i64 N, .slice S l cs] 28)
  have s0 := setAt_new w N S l cs
  have c0 := s0.c0
  have c1 := s0.c1
  clear h hS hvv
  by_cases hv : VRow n ⟨N, S, l, cs, s⟩
  · obtain rfl : N = n := hv.1
    have HVS : Hid (Vld n l s) := Lib.hid hv.2
    have HC := Lib.hid (set_yes n ⟨n, S, l, cs, s⟩ (w.alloc (.cells #[.int .i64 n, .slice S l cs] 28)) (HS.out.below b0) hn hv)
    have hvb : v = true ↔ ∀ i, i < n → ∀ j, j < n → bad2 T s i j = false := HVV.out.trans ⟨fun h => grt_bad.1 h.2.2, fun h => ⟨rfl, HVS.out, grt_bad.2 h⟩⟩
    have HVB := Lib.hid hvb
    have hl := HVS.out.2.2.1
    simp only [Int.toNat_natCast] at hl
    have HL := Lib.hid hl
    clear hv hvb HVV hl
    go_enter Tryd.func16, Tryd.ntmps16
    go_wp2_with fail
    refine HC.out.mono ?_; rintro e w2 ⟨rfl, b2⟩
    have s2 := s0.below b2
    have B2 := below_next b0 b2
    clear HC c0 c1 s0 b0 b2
    go_wp2_with fail
    go_loopw [6, 7] (fun i j wr => ∃ K : Nat, K ≤ n ∧ i = .int .i64 K ∧ Hid (∀ a, a < K → ∀ b, b < n → bad2 T s a b = false) ∧ SetAt wr w.heap.size n S l cs ∧ Below w.heap.size w wr) (fun i _ _ => n - (intOf i).toNat)
    case atStart => exact ⟨0, Nat.zero_le _, rfl, Lib.hid (fun a ha => absurd ha (Nat.not_lt_zero _)), s2, B2⟩
    case round =>
      clear s2 B2
      obtain ⟨K, hK, rfl, hQ, hs, hB⟩ := hrel
      by_cases hlt : K < n
      · go_wp2_with fail
        go_loopw [7] (fun j wr => ∃ D : Nat, D ≤ n ∧ j = .int .i64 D ∧ Hid (∀ b, b < D → bad2 T s K b = false) ∧ SetAt wr w.heap.size n S l cs ∧ Below w.heap.size w wr) (fun j _ => n - (intOf j).toNat)
        case atStart => exact ⟨0, Nat.zero_le _, rfl, Lib.hid (fun a ha => absurd ha (Nat.not_lt_zero _)), hs, hB⟩
        case round =>
          clear hs hB
          obtain ⟨D, hD, rfl, hQ2, hs, hB⟩ := hrel
          by_cases hlt2 : D < n
          · have c0 := hs.c0
            have c1 := hs.c1
            obtain ⟨v1, hv1⟩ : ∃ v, bt s K = v := ⟨_, rfl⟩
            obtain ⟨v2, hv2⟩ : ∃ v, bt s D = v := ⟨_, rfl⟩
            obtain ⟨v3, hv3⟩ : ∃ v, T K D = v := ⟨_, rfl⟩
            have HBD : Hid (bad2 T s K D = (v1 && (v2 && v3))) := Lib.hid (by unfold bad2; rw [hv1, hv2, hv3])
            have HC1 := Lib.hid (rhas_any n K S l cs s v1 wr (HS.out.below hB) (by have := HL.out; omega) (by omega) hv1)
            have HC2 : Hid (∀ u, Below w.heap.size w u → Calls Tryd.prog 48 #[.agg #[.int .i64 n, .slice S l cs], .int .i64 D] u fun e w' => e = .returned (.bool v2) ∧ Below u.heap.size u w') := Lib.hid fun u hu => rhas_any n D S l cs s v2 u (HS.out.below hu) (by have := HL.out; omega) (by omega) hv2
            have HNX : Hid (bad2 T s K D = false → ∀ b, b < D + 1 → bad2 T s K b = false) := Lib.hid fun h b hb => by
              by_cases e : b = D
              · rw [e]; exact h
              · exact hQ2.out b (by omega)
            have HNO : Hid (bad2 T s K D = true → v = false) := Lib.hid fun h => by
              cases hc : v with
              | false => rfl
              | true => have := HVB.out.1 hc K hlt D hlt2; rw [h] at this; cases this
            have HV3 := Lib.hid hv3
            clear hv1 hv2 hv3
            go_wp2_with fail
            refine HC1.out.mono ?_; rintro e w3 ⟨rfl, b3⟩
            have hs3 := hs.below b3
            have B3 := below_next hB b3
            clear c0 c1 hs hB b3 HC1
            cases v1 with
            | false =>
              have h2 := Lib.hid (HNX.out (by rw [HBD.out]; rfl))
              go_wp2_with fail
              go_roundw
              case rel => exact ⟨D + 1, hlt2, by go_num, h2, hs3, B3⟩
              case measure => simp [intOf]; omega
            | true =>
              have c0 := hs3.c0
              have c1 := hs3.c1
              have HC3 := Lib.hid (HC2.out w3 B3)
              go_wp2_with fail
              refine HC3.out.mono ?_; rintro e w4 ⟨rfl, b4⟩
              have hs4 := hs3.below b4
              have B4 := below_next B3 b4
              clear c0 c1 hs3 B3 b4 HC3
              cases v2 with
              | false =>
                have h2 := Lib.hid (HNX.out (by rw [HBD.out]; rfl))
                go_wp2_with fail
                go_roundw
                case rel => exact ⟨D + 1, hlt2, by go_num, h2, hs4, B4⟩
                case measure => simp [intOf]; omega
              | true =>
                have hBT := HT.out.below B4
                obtain ⟨gT, rfl, hgT, x0⟩ := hBT.cell hlt
                have x1 := (hBT.r K hlt).cell hlt2
                rw [HV3.out] at x1
                clear hBT
                cases v3 with
                | false =>
                  have h2 := Lib.hid (HNX.out (by rw [HBD.out]; rfl))
                  go_wp2_with fail
                  go_roundw
                  case rel => exact ⟨D + 1, hlt2, by go_num, h2, hs4, B4⟩
                  case measure => simp [intOf]; omega
                | true =>
                  obtain rfl : v = false := HNO.out (by rw [HBD.out]; rfl)
                  go_wp2_with fail
                  go_ret
                  exact ⟨rfl, B4⟩
          · obtain rfl : D = n := by omega
            have h2 : Hid (∀ a, a < K + 1 → ∀ b, b < D → bad2 T s a b = false) := Lib.hid fun a ha => by
              by_cases e : a = K
              · rw [e]; exact hQ2.out
              · exact hQ.out a (by omega)
            go_wp2_with fail
            go_roundw
            case rel => exact ⟨K + 1, hlt, by go_num, h2, hs, hB⟩
            case measure => simp [intOf]; omega
      · obtain rfl : K = n := by omega
        obtain rfl : v = true := HVB.out.2 hQ.out
        go_wp2_with fail
        go_ret
        exact ⟨rfl, hB⟩
  · have HC := Lib.hid (set_no n ⟨N, S, l, cs, s⟩ (w.alloc (.cells #[.int .i64 N, .slice S l cs] 28)) (HS.out.below b0) hn hv)
    obtain rfl : v = false := by
      cases hc : v with
      | false => rfl
      | true => have h := HVV.out.1 hc; exact absurd ⟨h.1, by have h2 := h.2.1; rw [h.1] at h2; exact h2⟩ hv
    clear hv
    go_enter Tryd.func16, Tryd.ntmps16
    go_wp2_with fail
    refine HC.out.mono ?_; rintro e w2 ⟨rfl, b2⟩
    go_wp2_with fail
    go_ret
    exact ⟨rfl, below_next b0 b2⟩
end Go.Proofs.YtngpfondnampjaaDoor
