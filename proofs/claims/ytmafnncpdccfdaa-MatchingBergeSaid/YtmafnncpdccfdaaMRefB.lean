/- The contract of the reference's IsSet. -/
import Derived.Test.YtmafnncpdccfdaaMRef
namespace Go.Proofs.Ytmafnncpdccfdaa
open Go.RowKit
theorem rIsSet_bits (N : Nat) (A : Option Addr) (len cap : Nat) (f : Nat → Nat) (J : Nat) (v : Bool) (w : World) (h : Wds w A len f) (h1 : N ≤ 512) (hl : len = (N + 63) / 64) (hJ : N ≤ J) (hJ2 : J ≤ 64 * len)
    (hz : ∀ i, N ≤ i → i < J → bt f i = false) (hv : (v = true ∧ J = 64 * len) ∨ (v = false ∧ J < 64 * len ∧ bt f J = true)) :
    Calls Try.prog 26 #[.agg #[.int .i64 N, .slice A len cap], .int .i64 N] w fun e w' => e = .returned (.bool v) ∧ Below w.heap.size w w' := by
  have hlen : len ≤ 9 := by omega
  have heq : ((len : Int) == (((N : Int) + 63) / 64)) = true := by rw [beq_iff_eq]; omega
  have heq2 : ((len : Int) != (((N : Int) + 63) / 64)) = false := by simp only [bne, heq]; rfl
  have heq3 : ((N : Int) != (N : Int)) = false := by simp
  have hd1 : decide ((N : Int) < 0) = false := decide_eq_false (by omega)
  have hd2 : decide (512 < (N : Int)) = false := decide_eq_false (by omega)
  have hw1 : IntKind.i64.wrap ((N : Int) + 63) = (N : Int) + 63 := IntWalk.i64_in _ (by omega)
  have hw2 : IntKind.i64.wrap (64 * (len : Int)) = 64 * (len : Int) := IntWalk.i64_in _ (by omega)
  have s0 := setAt_new w N A len cap
  have b0 := below_new w (.cells #[.int .i64 N, .slice A len cap] 30)
  have c0 := s0.c0
  have c1 := s0.c1
  have HL := Lib.hid hl; clear hl
  have HZ := Lib.hid hz; clear hz
  have HV := Lib.hid hv; clear hv
  have HW := Lib.hid h; clear h
  go_enter Try.func26, Try.ntmps26
  go_upto_region 1 with fail
  generalize w.alloc (.cells #[.int .i64 N, .slice A len cap] 30) = W at *
  go_wp2_with fail
  go_loopw [5] (fun i wr => ∃ I : Nat, N ≤ I ∧ I ≤ J ∧ i = .int .i64 I ∧ wr = W) (fun i _ => J - (intOf i).toNat)
  case atStart => exact ⟨N, by omega, hJ, rfl, rfl⟩
  case round =>
    clear heq heq2 hd1 hd2 heq3 hw1
    obtain ⟨I, hI, hIJ, rfl, rfl⟩ := hrel
    by_cases hlt : I < 64 * len
    · have hdd : decide ((I : Int) < 64 * (len : Int)) = true := decide_eq_true (by omega)
      have hil : I / 64 < len := by omega
      obtain ⟨b, off, rfl, hbl, hcz⟩ := (HW.out.below b0).2 (by omega)
      have x0 := hcz (I / 64) hil
      have hx := HW.out.1 (I / 64) hil
      have h64 : I % 64 < 64 := Nat.mod_lt _ (by decide)
      have hwrap : IntKind.i64.wrap ((I : Int) + 1) = (I : Int) + 1 := IntWalk.i64_in _ (by omega)
      clear hcz
      by_cases hIJ2 : I < J
      · have hq : ((((f (I / 64) : Nat) : Int) / 2 ^ (I % 64)).tmod 2 == 1) = false := (tbit _ _).trans (HZ.out I hI hIJ2)
        go_wp2_with fail
        go_roundw
        case rel => exact ⟨I + 1, by omega, by omega, by go_num, trivial⟩
        case measure => simp [intOf]; omega
      · have hIJe : I = J := by omega
        have hv2 : v = false ∧ bt f I = true := by
          rcases HV.out with ⟨_, h2⟩ | ⟨h2, _, h3⟩
          · omega
          · rw [hIJe]; exact ⟨h2, h3⟩
        obtain ⟨rfl, hb⟩ := hv2
        have hq : ((((f (I / 64) : Nat) : Int) / 2 ^ (I % 64)).tmod 2 == 1) = true := (tbit _ _).trans hb
        clear hb hIJe
        go_wp2_with fail
        go_ret
        exact ⟨rfl, b0⟩
    · have hdd : decide ((I : Int) < 64 * (len : Int)) = false := decide_eq_false (by omega)
      have hv2 : v = true := by
        rcases HV.out with ⟨h2, _⟩ | ⟨_, h2, _⟩
        · exact h2
        · omega
      subst hv2
      go_wp2_with fail
      go_ret
      exact ⟨rfl, b0⟩
theorem rIsSet_yes (N : Nat) (A : Option Addr) (len cap : Nat) (f : Nat → Nat) (w : World) (h : Wds w A len f) (hv : Vld N len f) :
    Calls Try.prog 26 #[.agg #[.int .i64 N, .slice A len cap], .int .i64 N] w fun e w' => e = .returned (.bool true) ∧ Below w.heap.size w w' := by
  have h1 : N ≤ 512 := by have := hv.2.1; omega
  have h2 : len = (N + 63) / 64 := hv.2.2.1
  exact rIsSet_bits N A len cap f (64 * len) true w h h1 h2 (by omega) (by omega) hv.2.2.2 (Or.inl ⟨rfl, rfl⟩)
theorem first_bit (p : Nat → Bool) (n d : Nat) : (∀ i, n ≤ i → i < n + d → p i = false) ∨ ∃ J, n ≤ J ∧ J < n + d ∧ p J = true ∧ ∀ i, n ≤ i → i < J → p i = false := by
  induction d with
  | zero => left; intro i h1 h2; omega
  | succ d ih =>
    rcases ih with h | ⟨J, h1, h2, h3, h4⟩
    · cases hp : p (n + d)
      · left; intro i h1 h2
        by_cases e : i = n + d
        · rw [e]; exact hp
        · exact h i h1 (by omega)
      · right; exact ⟨n + d, by omega, by omega, hp, h⟩
    · right; exact ⟨J, h1, by omega, h3, h4⟩
theorem rIsSet_ne (N n : Int) (A : Option Addr) (len cap : Nat) (w : World) (h : N ≠ n ∨ n < 0 ∨ 512 < n ∨ (0 ≤ n ∧ n ≤ 512 ∧ N = n ∧ (len : Int) ≠ (n + 63) / 64)) :
    Calls Try.prog 26 #[.agg #[.int .i64 N, .slice A len cap], .int .i64 n] w fun e w' => e = .returned (.bool false) ∧ Below w.heap.size w w' := by
  have s0 := setAt_new w N A len cap
  have b0 := below_new w (.cells #[.int .i64 N, .slice A len cap] 30)
  have c0 := s0.c0
  have c1 := s0.c1
  by_cases h1 : N = n
  · subst h1
    have q1 : (N != N) = false := by simp
    by_cases h2 : N < 0
    · have q2 : decide (N < 0) = true := decide_eq_true h2
      clear h
      go_enter Try.func26, Try.ntmps26
      go_upto_region 1 with fail
      generalize w.alloc (.cells #[.int .i64 N, .slice A len cap] 30) = W at *
      go_wp2_with fail
      go_ret
      exact ⟨rfl, b0⟩
    · have q2 : decide (N < 0) = false := decide_eq_false h2
      by_cases h3 : 512 < N
      · have q3 : decide (512 < N) = true := decide_eq_true h3
        clear h
        go_enter Try.func26, Try.ntmps26
        go_upto_region 1 with fail
        generalize w.alloc (.cells #[.int .i64 N, .slice A len cap] 30) = W at *
        go_wp2_with fail
        go_ret
        exact ⟨rfl, b0⟩
      · have q3 : decide (512 < N) = false := decide_eq_false h3
        have hw1 : IntKind.i64.wrap (N + 63) = N + 63 := IntWalk.i64_in _ (by omega)
        have hlen : (len : Int) ≠ (N + 63) / 64 := by
          rcases h with h | h | h | ⟨_, _, _, h⟩
          · exact absurd rfl h
          · omega
          · omega
          · exact h
        have hne : ((len : Int) != ((N + 63) / 64)) = true := bne_iff_ne.2 hlen
        obtain ⟨n, rfl⟩ := Int.eq_ofNat_of_zero_le (show 0 ≤ N by omega)
        clear h hlen
        go_enter Try.func26, Try.ntmps26
        go_upto_region 1 with fail
        generalize w.alloc (.cells #[.int .i64 n, .slice A len cap] 30) = W at *
        go_wp2_with fail
        go_ret
        exact ⟨rfl, b0⟩
  · have q1 : (N != n) = true := bne_iff_ne.2 h1
    clear h
    go_enter Try.func26, Try.ntmps26
    go_upto_region 1 with fail
    generalize w.alloc (.cells #[.int .i64 N, .slice A len cap] 30) = W at *
    go_wp2_with fail
    go_ret
    exact ⟨rfl, b0⟩
theorem rIsSet_no (N n : Int) (A : Option Addr) (len cap : Nat) (f : Nat → Nat) (w : World) (h : Wds w A len f) (hv : ¬ (N = n ∧ Vld N len f)) :
    Calls Try.prog 26 #[.agg #[.int .i64 N, .slice A len cap], .int .i64 n] w fun e w' => e = .returned (.bool false) ∧ Below w.heap.size w w' := by
  by_cases hr : N ≠ n ∨ n < 0 ∨ 512 < n ∨ (0 ≤ n ∧ n ≤ 512 ∧ N = n ∧ (len : Int) ≠ (n + 63) / 64)
  · exact rIsSet_ne N n A len cap w hr
  · have e : N = n := by
      by_cases e : N = n
      · exact e
      · exact absurd (.inl e) hr
    subst e
    obtain ⟨m, rfl⟩ := Int.eq_ofNat_of_zero_le (show 0 ≤ N by omega)
    have h1 : m ≤ 512 := by omega
    have h2 : len = (m + 63) / 64 := by omega
    rcases first_bit (bt f) m (64 * len - m) with hz | ⟨J, a1, a2, a3, a4⟩
    · exact absurd ⟨rfl, by omega, by omega, by simpa using h2, fun i hi hi2 => hz i (by simpa using hi) (by omega)⟩ hv
    · exact rIsSet_bits m A len cap f J false w h h1 h2 a1 (by omega) a4 (Or.inr ⟨rfl, by omega, a3⟩)
end Go.Proofs.Ytmafnncpdccfdaa
