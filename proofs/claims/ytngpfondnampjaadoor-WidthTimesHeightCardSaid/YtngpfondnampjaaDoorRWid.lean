/- The reference of layer 7: has, Size, IsAntichain, IsChain. -/
import Derived.Test.YtngpfondnampjaaDoorWPar
import Derived.Test.YtngpfondnampjaaDoorMGc
namespace Go.Proofs.YtngpfondnampjaaDoor
open Go.RowKit Go.Sort
set_option maxRecDepth 100000 in
set_option maxHeartbeats 2000000 in
theorem rhas_any (N : Int) (i : Nat) (A : Option Addr) (la ca : Nat) (f : Nat → Nat) (v : Bool) (w : World) (ha : Wds w A la f) (hi : i / 64 < la) (hi2 : i < 1000000) (hb : bt f i = v) :
    Calls Tryd.prog 48 #[.agg #[.int .i64 N, .slice A la ca], .int .i64 i] w fun e w' => e = .returned (.bool v) ∧ Below w.heap.size w w' := by
  have b0 := below_new w (.cells #[.int .i64 N, .slice A la ca] 28)
  have s0 := setAt_new w N A la ca
  have hu := ha.1 (i / 64) hi
  obtain ⟨b, off, rfl, hbl, hc⟩ := (ha.below b0).2 (by omega)
  have y0 := hc (i / 64) hi
  have HB : Hid ((f (i / 64)).testBit (i % 64) = v) := hb
  clear hb hc ha
  have c1 := s0.c1
  generalize f (i / 64) = y at *
  have hq := HB.out
  rw [← bit_tmod] at hq
  have HQ := Lib.hid hq
  clear hq HB
  go_enter Tryd.func48, Tryd.ntmps48
  go_wp2_with fail
  go_ret
  exact ⟨ret_bool HQ.out, b0⟩
theorem size_step {f : Nat → Nat} {K : Nat} {v : Bool} (h : bt f K = v) : ((List.range (K + 1)).filter (bt f)).length = ((List.range K).filter (bt f)).length + (if v = true then 1 else 0) := by
  rw [List.range_succ, List.filter_append, List.length_append]
  cases v <;> simp [h]
set_option maxRecDepth 100000 in
set_option maxHeartbeats 2000000 in
theorem rsize_any (n : Nat) (A : Option Addr) (la ca : Nat) (f : Nat → Nat) (w : World) (ha : Wds w A la f) (hla : la = (n + 63) / 64) (hn : n ≤ 512) :
    Calls Tryd.prog 19 #[.agg #[.int .i64 n, .slice A la ca]] w fun e w' => e = .returned (.int .i64 ((((List.range n).filter (bt f)).length : Nat) : Int)) ∧ Below w.heap.size w w' := by
  have b0 := below_new w (.cells #[.int .i64 n, .slice A la ca] 28)
  have s0 := setAt_new w n A la ca
  have HA := Lib.hid (ha.below b0)
  have HLA := Lib.hid hla
  clear ha hla
  go_enter Tryd.func19, Tryd.ntmps19
  go_upto_region 1 with fail
  generalize w.alloc (.cells #[.int .i64 n, .slice A la ca] 28) = W at *
  go_wp2_with fail
  go_loopw [3, 4] (fun s i wr => ∃ K : Nat, K ≤ n ∧ i = .int .i64 K ∧ s = .int .i64 ((((List.range K).filter (bt f)).length : Nat) : Int) ∧ SetAt wr w.heap.size n A la ca ∧ Wds wr A la f ∧ Below w.heap.size w wr) (fun _ i _ => n - (intOf i).toNat)
  case atStart => exact ⟨0, Nat.zero_le _, rfl, rfl, s0, HA.out, b0⟩
  case round =>
    clear s0 b0
    obtain ⟨K, hK, rfl, rfl, hs, hw, hB⟩ := hrel
    have c0 := hs.c0
    have hle : ((List.range K).filter (bt f)).length ≤ K := Nat.le_trans (List.length_filter_le _ _) (by rw [List.length_range]; omega)
    by_cases hlt : K < n
    · have c1 := hs.c1
      obtain ⟨v, hv⟩ : ∃ v, bt f K = v := ⟨_, rfl⟩
      have HST := Lib.hid (size_step hv)
      have HC := Lib.hid (rhas_any n K A la ca f v wr hw (by have := HLA.out; omega) (by omega) hv)
      generalize ((List.range K).filter (bt f)).length = q at *
      have HW := Lib.hid hw
      clear hv hw
      go_wp2_with fail
      refine HC.out.mono ?_; rintro e w2 ⟨rfl, b2⟩
      have hs2 := hs.below b2
      have hw2 := HW.out.below b2
      have B2 := below_next hB b2
      clear hs hB b2 c0 c1 HW HC
      cases v with
      | true =>
        go_wp2_with fail
        go_roundw
        case rel => exact ⟨K + 1, hlt, by go_num, by rw [HST.out]; go_num, hs2, hw2, B2⟩
        case measure => simp [intOf]; omega
      | false =>
        go_wp2_with fail
        go_roundw
        case rel => exact ⟨K + 1, hlt, by go_num, by rw [HST.out]; rfl, hs2, hw2, B2⟩
        case measure => simp [intOf]; omega
    · obtain rfl : K = n := by omega
      go_wp2_with fail
      go_ret
      exact ⟨rfl, hB⟩
set_option maxRecDepth 100000 in
set_option maxHeartbeats 4000000 in
theorem rchain_any (A B : Option Addr) (n c m cb base : Nat) (Bl Cl : Nat → Nat) (T : Nat → Nat → Bool) (z : Nat → Int) (v : Bool) (w : World) (h : BTab w base (.slice A n c) n n Bl Cl T) (_hn : n ≤ 512) (hz : Ints w B m z) (hm : m ≤ 1000000) (hvv : v = true ↔ ChainP n T z m) :
    Calls Tryd.prog 17 #[.slice A n c, .slice B m cb] w fun e w' => e = .returned (.bool v) ∧ Below w.heap.size w w' := by
  have HT := Lib.hid h
  have HZ := Lib.hid hz
  have HVV := Lib.hid hvv
  clear h hz hvv
  go_enter Tryd.func17, Tryd.ntmps17
  go_wp2_with fail
  go_loopw [5] (fun i wr => ∃ K : Nat, K ≤ m ∧ i = .int .i64 K ∧ Hid (ChainP n T z K) ∧ Below w.heap.size w wr) (fun i _ => m - (intOf i).toNat)
  case atStart => exact ⟨0, Nat.zero_le _, rfl, Lib.hid (fun k hk => absurd hk (Nat.not_lt_zero _)), Below.refl _ _⟩
  case round =>
    obtain ⟨K, hK, rfl, hQ, hB⟩ := hrel
    by_cases hlt : K < m
    · have hwrap : IntKind.i64.wrap ((K : Int) + 1) = (K : Int) + 1 := IntWalk.i64_in _ (by omega)
      obtain ⟨b, off, rfl, hbl, hcz⟩ := (HZ.out.below hB) (by omega)
      have y0 := hcz K hlt
      by_cases h0 : z K < 0
      · have d1 : decide (z K < 0) = true := decide_eq_true h0
        obtain rfl : v = false := by
          cases hc : v with
          | false => rfl
          | true => have := (HVV.out.1 hc K hlt).1.1; omega
        clear h0 hcz HVV
        go_wp2_with fail
        go_ret
        exact ⟨rfl, hB⟩
      · have d1 : decide (z K < 0) = false := decide_eq_false h0
        by_cases h1 : (n : Int) ≤ z K
        · have d2 : decide ((n : Int) ≤ z K) = true := decide_eq_true h1
          obtain rfl : v = false := by
            cases hc : v with
            | false => rfl
            | true => have := (HVV.out.1 hc K hlt).1.2; omega
          clear h0 h1 hcz HVV
          go_wp2_with fail
          go_ret
          exact ⟨rfl, hB⟩
        · have d2 : decide ((n : Int) ≤ z K) = false := decide_eq_false h1
          obtain ⟨x, hx⟩ := Int.eq_ofNat_of_zero_le (show 0 ≤ z K by omega)
          have hxn : x < n := by omega
          have d2n : decide (n ≤ x) = false := decide_eq_false (by omega)
          by_cases hK0 : K = 0
          · have d3 : decide ((0 : Int) < (K : Int)) = false := decide_eq_false (by omega)
            have d3n : decide (0 < K) = false := decide_eq_false (by omega)
            have hQ2 : Hid (ChainP n T z (K + 1)) := Lib.hid (chain_next hQ.out ⟨by omega, by omega⟩ (fun h => by omega))
            clear h0 h1 hcz hx hK0
            go_upto_region 6 with fail
            clear y0
            go_quiet (fail)
            go_wp2_with fail
            go_roundw
            case rel => exact ⟨K + 1, hlt, by go_num, hQ2, below_drewN hB _⟩
            case measure => simp [intOf]; omega
          · obtain ⟨K1, hK1⟩ : ∃ K1, K - 1 = K1 := ⟨_, rfl⟩
            have hw1 : IntKind.i64.wrap ((K : Int) - 1) = (K1 : Int) := by rw [show (K : Int) - 1 = (K1 : Int) by omega]; exact IntWalk.i64_in _ (by omega)
            have d3 : decide ((0 : Int) < (K : Int)) = true := decide_eq_true (by omega)
            have d3n : decide (0 < K) = true := decide_eq_true (by omega)
            have hK1m : K1 < m := by omega
            have y1 := hcz K1 (by omega)
            obtain ⟨a1, a2⟩ := (hQ.out K1 (by omega)).1
            obtain ⟨y, hy⟩ := Int.eq_ofNat_of_zero_le a1
            have hyn : y < n := by omega
            obtain ⟨t, ht⟩ : ∃ t, T y x = t := ⟨_, rfl⟩
            have hT : Hid (t = true ↔ T (z (K - 1)).toNat (z K).toNat = true) := Lib.hid (by rw [hK1, hy, hx, Int.toNat_natCast, Int.toNat_natCast, ht])
            have hzr : Hid (0 ≤ z K ∧ z K < n) := Lib.hid ⟨by omega, by omega⟩
            have HKp : Hid (0 < K) := Lib.hid (by omega)
            rw [hx] at y0
            rw [hx] at d1 d2
            rw [hy] at y1
            have hBT := HT.out.below hB
            obtain ⟨gT, rfl, hgT, x0⟩ := hBT.cell hyn
            have x1 := (hBT.r y hyn).cell hxn
            rw [ht] at x1
            clear h0 h1 hcz hx hy ht a1 a2 hK1 hK0 hBT
            go_upto_region 6 with fail
            go_quiet (fail)
            clear y0 y1 x0 x1
            cases t with
            | true =>
              have hQ2 : Hid (ChainP n T z (K + 1)) := Lib.hid (chain_next hQ.out hzr.out (fun _ => hT.out.1 (by first | rfl | exact trivial)))
              go_wp2_with fail
              go_roundw
              case rel => exact ⟨K + 1, hlt, by go_num, hQ2, below_drewN hB _⟩
              case measure => simp [intOf]; omega
            | false =>
              obtain rfl : v = false := by
                cases hc : v with
                | false => rfl
                | true =>
                  have h1 := (HVV.out.1 hc K hlt).2 HKp.out
                  have h2 := hT.out.2 h1
                  cases h2
              go_wp2_with fail
              go_ret
              exact ⟨rfl, below_drewN hB _⟩
    · obtain rfl : K = m := by omega
      obtain rfl : v = true := HVV.out.2 hQ.out
      go_wp2_with fail
      go_ret
      exact ⟨rfl, hB⟩
end Go.Proofs.YtngpfondnampjaaDoor
