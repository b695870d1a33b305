/- The reference's Has and Formed. -/
import Derived.Test.YtjdceafkcakbjaaFRefC
namespace Go.Proofs.Ytjdceafkcakbjaa
open Go.RowKit
theorem mod_test (x u : Nat) : ((x : Int) / 2 ^ u % 2 == 1) = x.testBit u := by
  rw [shr_cast, Nat.testBit_eq_decide_div_mod_eq]
  by_cases h : x / 2 ^ u % 2 = 1
  · rw [decide_eq_true h]; exact beq_iff_eq.2 (by omega)
  · rw [decide_eq_false h]; exact beq_false_of_ne (by omega)
theorem refHas_any (N : Int) (n i : Nat) (A : Option Addr) (la ca : Nat) (f : Nat → Nat) (v : Bool) (w : World) (ha : Wds w A la f) (hl : la = (n + 63) / 64) (hn : n ≤ 512) (hi : i < n) (hb : bt f i = v) :
    Calls Try.prog 45 #[.agg #[.int .i64 N, .slice A la ca], .int .i64 i] w fun e w' => e = .returned (.bool v) ∧ Below w.heap.size w w' := by
  have s0 := setAt_new w N A la ca
  have b0 := below_new w (.cells #[.int .i64 N, .slice A la ca] 28)
  obtain ⟨b, off, rfl, hbl, hc⟩ := (ha.below b0).2 (by omega)
  have x := hc (i / 64) (by omega)
  have hx64 := ha.1 (i / 64) (by omega)
  have hB : (f (i / 64)).testBit (i % 64) = v := hb
  have ht := mod_test (f (i / 64)) (i % 64)
  rw [hB] at ht
  clear hc ha hb hB
  have c1 := s0.c1
  generalize f (i / 64) = y at *
  have hq : (i : Int).tdiv 64 = (i : Int) / 64 := by rw [Int.tdiv_eq_ediv_of_nonneg (by omega)]
  have hm : (i : Int).tmod 64 = (i : Int) % 64 := by rw [Int.tmod_eq_emod_of_nonneg (by omega)]
  have hq0 : (0 : Int) ≤ (i : Int) / 64 := by omega
  have hq1 : (i : Int) / 64 < (la : Int) := by omega
  have hq2 : ((i : Int) / 64).toNat = i / 64 := by omega
  have hw1 : IntKind.i64.wrap ((i : Int) / 64) = (i : Int) / 64 := IntWalk.i64_in _ (by omega)
  have hw2 : IntKind.i64.wrap ((i : Int) % 64) = (i : Int) % 64 := IntWalk.i64_in _ (by omega)
  clear hl
  go_enter Try.func45, Try.ntmps45
  go_wp2_with fail
  go_ret
  have ht2 : (((y : Int) / 2 ^ (i % 64)).tmod 2 == 1) = v := by rw [Int.tmod_eq_emod_of_nonneg (by rw [shr_cast]; exact Int.natCast_nonneg _)]; exact ht
  exact ⟨ret_bool ht2, b0⟩
theorem formed_n (N n : Int) (A : Option Addr) (la ca : Nat) (w : World) (h : N ≠ n) :
    Calls Try.prog 44 #[.agg #[.int .i64 N, .slice A la ca], .int .i64 n] w fun e w' => e = .returned (.bool false) ∧ Below w.heap.size w w' := by
  have s0 := setAt_new w N A la ca
  have b0 := below_new w (.cells #[.int .i64 N, .slice A la ca] 28)
  have c0 := s0.c0
  have q1 : (N != n) = true := bne_iff_ne.2 h
  clear h
  go_enter Try.func44, Try.ntmps44
  go_wp2_with fail
  go_ret
  exact ⟨rfl, b0⟩
theorem formed_any (n : Nat) (A : Option Addr) (la ca : Nat) (f : Nat → Nat) (v : Bool) (w : World) (ha : Wds w A la f) (hn : n ≤ 512) (hv : v = true ↔ Vld (n : Int) la f) :
    Calls Try.prog 44 #[.agg #[.int .i64 n, .slice A la ca], .int .i64 n] w fun e w' => e = .returned (.bool v) ∧ Below w.heap.size w w' := by
  have s0 := setAt_new w n A la ca
  have b0 := below_new w (.cells #[.int .i64 n, .slice A la ca] 28)
  have c0 := s0.c0
  have c1 := s0.c1
  have q1 : ((n : Int) != (n : Int)) = false := by simp
  have hw0 : IntKind.i64.wrap ((n : Int) + 63) = (n : Int) + 63 := IntWalk.i64_in _ (by omega)
  have hq : ((n : Int) + 63).tdiv 64 = ((n : Int) + 63) / 64 := by rw [Int.tdiv_eq_ediv_of_nonneg (by omega)]
  have hw1 : IntKind.i64.wrap (((n : Int) + 63) / 64) = ((n : Int) + 63) / 64 := IntWalk.i64_in _ (by omega)
  by_cases hl : la = (n + 63) / 64
  · have q2 : ((la : Int) != ((n : Int) + 63) / 64) = false := by
      have : (la : Int) = ((n : Int) + 63) / 64 := by omega
      rw [this]; simp
    have hm : (n : Int).tmod 64 = (n : Int) % 64 := by rw [Int.tmod_eq_emod_of_nonneg (by omega)]
    have hw2 : IntKind.i64.wrap ((n : Int) % 64) = (n : Int) % 64 := IntWalk.i64_in _ (by omega)
    have hvl := vld_last ha.1 hn hl
    by_cases h0 : n % 64 = 0
    · obtain rfl : v = true := hv.2 (hvl.2 (Or.inl h0))
      have q3 : ((n : Int) % 64 == 0) = true := beq_iff_eq.2 (by omega)
      clear hvl hv hl h0
      go_enter Try.func44, Try.ntmps44
      go_wp2_with fail
      go_ret
      exact ⟨rfl, b0⟩
    · have q3 : ((n : Int) % 64 == 0) = false := beq_false_of_ne (by omega)
      have q4 : ((n : Int) == 0) = false := beq_false_of_ne (by omega)
      obtain ⟨b, off, rfl, hbl, hc⟩ := (ha.below b0).2 (by omega)
      have x := hc (n / 64) (by omega)
      have hvv : v = decide (f (n / 64) / 2 ^ (n % 64) = 0) := by
        have e : la - 1 = n / 64 := by omega
        rw [e] at hvl
        by_cases h2 : f (n / 64) / 2 ^ (n % 64) = 0
        · rw [decide_eq_true h2]; exact hv.2 (hvl.2 (Or.inr h2))
        · rw [decide_eq_false h2]
          cases v with
          | false => rfl
          | true => exact absurd (hvl.1 (hv.1 rfl)) (fun h3 => h3.elim h0 h2)
      have ht := shr_test (f (n / 64)) (n % 64)
      rw [← hvv] at ht
      clear hc ha hv hvl hvv
      generalize f (n / 64) = y at *
      have hq5 : (n : Int).tdiv 64 = (n : Int) / 64 := by rw [Int.tdiv_eq_ediv_of_nonneg (by omega)]
      have hq0 : (0 : Int) ≤ (n : Int) / 64 := by omega
      have hq1 : (n : Int) / 64 < (la : Int) := by omega
      have hq2 : ((n : Int) / 64).toNat = n / 64 := by omega
      have hw3 : IntKind.i64.wrap ((n : Int) / 64) = (n : Int) / 64 := IntWalk.i64_in _ (by omega)
      clear hl h0
      go_enter Try.func44, Try.ntmps44
      go_wp2_with fail
      go_ret
      exact ⟨by simp, b0⟩
  · have q2 : ((la : Int) != ((n : Int) + 63) / 64) = true := bne_iff_ne.2 (by omega)
    obtain rfl : v = false := by cases v with | false => rfl | true => exact absurd (hv.1 rfl) (fun h => hl (by have := h.2.2.1; omega))
    clear hl hv
    go_enter Try.func44, Try.ntmps44
    go_wp2_with fail
    go_ret
    exact ⟨rfl, b0⟩
end Go.Proofs.Ytjdceafkcakbjaa
