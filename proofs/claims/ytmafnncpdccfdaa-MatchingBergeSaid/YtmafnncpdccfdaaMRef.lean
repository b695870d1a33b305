/- The contracts of the reference on sets: Has, Count, IsSet. -/
import Derived.Test.YtmafnncpdccfdaaMHal
namespace Go.Proofs.Ytmafnncpdccfdaa
open Go.RowKit
theorem tbit (x j : Nat) : ((((x : Nat) : Int) / 2 ^ j).tmod 2 == 1) = x.testBit j := by
  have e : ((x : Nat) : Int) / 2 ^ j = ((x / 2 ^ j : Nat) : Int) := by
    rw [Int.natCast_ediv]; congr 1
  rw [e, Nat.testBit_eq_decide_div_mod_eq]
  generalize x / 2 ^ j = y
  clear e
  by_cases h : y % 2 = 1
  · rw [decide_eq_true h, beq_iff_eq, Int.tmod_eq_emod_of_nonneg (by omega)]; omega
  · rw [decide_eq_false h]
    refine beq_false_of_ne ?_
    rw [Int.tmod_eq_emod_of_nonneg (by omega)]; omega
theorem rHas_in (N i : Nat) (A : Option Addr) (la ca : Nat) (f : Nat → Nat) (v : Bool) (w : World) (ha : Wds w A la f) (hi : i < N) (hN : N ≤ 512) (hla : la = (N + 63) / 64) (hb : bt f i = v) :
    Calls Try.prog 29 #[.agg #[.int .i64 N, .slice A la ca], .int .i64 i] w fun e w' => e = .returned (.bool v) ∧ Below w.heap.size w w' := by
  have hlt : i / 64 < la := by omega
  have s0 := setAt_new w N A la ca
  have b0 := below_new w (.cells #[.int .i64 N, .slice A la ca] 30)
  obtain ⟨b, off, rfl, hbl, hcz⟩ := ha.2 (by omega)
  have x0 := hcz (i / 64) hlt
  have hx := ha.1 (i / 64) hlt
  have y0 := (b0.cell (p := ⟨b, off + i / 64, none⟩) hbl).trans x0
  have c0 := s0.c0
  have c1 := s0.c1
  have h64 : i % 64 < 64 := Nat.mod_lt _ (by decide)
  have q1 : decide ((0 : Int) ≤ (i : Int)) = true := decide_eq_true (by omega)
  have q2 : decide ((i : Int) < (N : Int)) = true := decide_eq_true (by omega)
  have hq : ((((f (i / 64) : Nat) : Int) / 2 ^ (i % 64)).tmod 2 == 1) = v := (tbit _ _).trans hb
  clear hcz x0 ha hla hb
  go_enter Try.func29, Try.ntmps29
  go_upto_region 1 with fail
  generalize w.alloc (.cells #[.int .i64 N, .slice (some ⟨b, off, none⟩) la ca] 30) = W at *
  go_wp2_with fail
  go_ret
  exact ⟨rfl, b0⟩
theorem rHas_out (N : Nat) (i : Int) (A : Option Addr) (la ca : Nat) (w : World) (h : i < 0 ∨ N ≤ i) :
    Calls Try.prog 29 #[.agg #[.int .i64 N, .slice A la ca], .int .i64 i] w fun e w' => e = .returned (.bool false) ∧ Below w.heap.size w w' := by
  have s0 := setAt_new w N A la ca
  have b0 := below_new w (.cells #[.int .i64 N, .slice A la ca] 30)
  have c0 := s0.c0
  by_cases hi : 0 ≤ i
  · have q1 : decide (0 ≤ i) = true := decide_eq_true hi
    have q2 : decide (i < (N : Int)) = false := decide_eq_false (by omega)
    clear h
    go_enter Try.func29, Try.ntmps29
    go_upto_region 1 with fail
    generalize w.alloc (.cells #[.int .i64 N, .slice A la ca] 30) = W at *
    go_wp2_with fail
    go_ret
    exact ⟨rfl, b0⟩
  · have q1 : decide (0 ≤ i) = false := decide_eq_false hi
    clear h
    go_enter Try.func29, Try.ntmps29
    go_upto_region 1 with fail
    generalize w.alloc (.cells #[.int .i64 N, .slice A la ca] 30) = W at *
    go_wp2_with fail
    go_ret
    exact ⟨rfl, b0⟩
/- how many members a set has below K -/
def bcnt (f : Nat → Nat) : Nat → Nat
  | 0 => 0
  | K + 1 => bcnt f K + (if bt f K = true then 1 else 0)
theorem bcnt_le (f : Nat → Nat) : ∀ K, bcnt f K ≤ K
  | 0 => Nat.le_refl _
  | K + 1 => by have := bcnt_le f K; show bcnt f K + _ ≤ _; split <;> omega
theorem rCount_any (N : Nat) (A : Option Addr) (la ca : Nat) (f : Nat → Nat) (w : World) (ha : Wds w A la f) (hN : N ≤ 512) (hla : la = (N + 63) / 64) :
    Calls Try.prog 28 #[.agg #[.int .i64 N, .slice A la ca]] w fun e w' => e = .returned (.int .i64 (bcnt f N : Nat)) ∧ Below w.heap.size w w' := by
  have s0 := setAt_new w N A la ca
  have b0 := below_new w (.cells #[.int .i64 N, .slice A la ca] 30)
  have HA := Lib.hid ha; clear ha
  have HL := Lib.hid hla; clear hla
  go_enter Try.func28, Try.ntmps28
  go_upto_region 1 with fail
  generalize w.alloc (.cells #[.int .i64 N, .slice A la ca] 30) = W at *
  go_wp2_with fail
  go_loopw [3, 4] (fun x i wr => ∃ K : Nat, K ≤ N ∧ i = .int .i64 K ∧ x = .int .i64 (bcnt f K : Nat) ∧ SetAt wr w.heap.size N A la ca ∧ Below w.heap.size w wr) (fun _ i _ => N - (intOf i).toNat)
  case atStart => exact ⟨0, Nat.zero_le _, rfl, rfl, s0, b0⟩
  case round =>
    clear s0 b0
    obtain ⟨K, hK, rfl, rfl, hS, hB⟩ := hrel
    have c0 := hS.c0
    have c1 := hS.c1
    have hle := bcnt_le f K
    have hwrap : IntKind.i64.wrap ((K : Int) + 1) = (K : Int) + 1 := IntWalk.i64_in _ (by omega)
    by_cases hlt : K < N
    · cases hb : bt f K with
      | true =>
        have HC : Hid (bcnt f (K + 1) = bcnt f K + 1) := by show bcnt f K + _ = _; rw [if_pos hb]
        have HH := Lib.hid (rHas_in N K A la ca f true wr (HA.out.below hB) hlt hN HL.out hb)
        have hwrap2 : IntKind.i64.wrap (((bcnt f K : Nat) : Int) + 1) = ((bcnt f K : Nat) : Int) + 1 := IntWalk.i64_in _ (by omega)
        clear hb
        go_wp2_with fail
        refine HH.out.mono ?_; rintro e w2 ⟨rfl, b2⟩
        go_wp2_with fail
        go_roundw
        case rel => exact ⟨K + 1, hlt, by go_num, by rw [HC.out]; go_num, hS.below b2, below_next hB b2⟩
        case measure => simp [intOf]; omega
      | false =>
        have HC : Hid (bcnt f (K + 1) = bcnt f K) := by show bcnt f K + _ = _; rw [if_neg (by rw [hb]; exact Bool.false_ne_true)]; rfl
        have HH := Lib.hid (rHas_in N K A la ca f false wr (HA.out.below hB) hlt hN HL.out hb)
        clear hb
        go_wp2_with fail
        refine HH.out.mono ?_; rintro e w2 ⟨rfl, b2⟩
        go_wp2_with fail
        go_roundw
        case rel => exact ⟨K + 1, hlt, by go_num, by rw [HC.out], hS.below b2, below_next hB b2⟩
        case measure => simp [intOf]; omega
    · obtain rfl : K = N := by omega
      go_wp2_with fail
      go_ret
      exact ⟨rfl, hB⟩
end Go.Proofs.Ytmafnncpdccfdaa
