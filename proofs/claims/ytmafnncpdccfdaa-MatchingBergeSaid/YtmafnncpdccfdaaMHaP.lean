/- The least of the best masks (mathematics). -/
import Derived.Test.YtmafnncpdccfdaaMHaN
namespace Go.Proofs.Ytmafnncpdccfdaa
def bst (d : Nat → Int) : Nat → Int
  | 0 => 0
  | K + 1 => if bst d K < d K then d K else bst d K
def lst (d : Nat → Int) (l0 : Nat) : Nat → Nat
  | 0 => l0
  | K + 1 => if bst d K < d K then K else if d K = bst d K then lst d l0 K &&& K else lst d l0 K
theorem bst_ge (d : Nat → Int) : ∀ K, 0 ≤ bst d K ∧ ∀ M, M < K → d M ≤ bst d K
  | 0 => ⟨Int.le_refl _, fun _ h => absurd h (Nat.not_lt_zero _)⟩
  | K + 1 => by
    obtain ⟨h1, h2⟩ := bst_ge d K
    show 0 ≤ (if bst d K < d K then d K else bst d K) ∧ ∀ M, M < K + 1 → d M ≤ (if bst d K < d K then d K else bst d K)
    split
    · refine ⟨by omega, fun M hM => ?_⟩
      by_cases e : M = K
      · subst e; exact Int.le_refl _
      · have := h2 M (by omega); omega
    · refine ⟨h1, fun M hM => ?_⟩
      by_cases e : M = K
      · subst e; omega
      · exact h2 M (by omega)
theorem bst_le {d : Nat → Int} {F : Int} (h0 : 0 ≤ F) : ∀ K, (∀ M, M < K → d M ≤ F) → bst d K ≤ F
  | 0, _ => h0
  | K + 1, h => by
    show (if bst d K < d K then d K else bst d K) ≤ F
    split
    · exact h K (Nat.lt_succ_self K)
    · exact bst_le h0 K (fun M hM => h M (by omega))
theorem lst_bits {d : Nat → Int} {F : Int} {l0 : Nat} (hF : 0 < F) : ∀ K, (∀ M, M < K → d M ≤ F) → bst d K = F → ∀ i, (lst d l0 K).testBit i = true ↔ ∀ M, M < K → d M = F → M.testBit i = true
  | 0, _, h, _ => by have h : (0 : Int) = F := h; omega
  | K + 1, hle, hb, i => by
    have hle' : ∀ M, M < K → d M ≤ F := fun M hM => hle M (by omega)
    have hKF := hle K (Nat.lt_succ_self K)
    have hge := bst_ge d K
    have hb' : (if bst d K < d K then d K else bst d K) = F := hb
    show (if bst d K < d K then K else if d K = bst d K then lst d l0 K &&& K else lst d l0 K).testBit i = true ↔ _
    by_cases c1 : bst d K < d K
    · rw [if_pos c1] at hb' ⊢
      constructor
      · intro h M hM hd
        by_cases e : M = K
        · subst e; exact h
        · have := hge.2 M (by omega); omega
      · intro h; exact h K (Nat.lt_succ_self K) hb'
    · rw [if_neg c1] at hb' ⊢
      have ih := lst_bits (l0 := l0) hF K hle' hb' i
      by_cases c2 : d K = bst d K
      · rw [if_pos c2, Nat.testBit_and, Bool.and_eq_true, ih]
        constructor
        · rintro ⟨h1, h2⟩ M hM hd
          by_cases e : M = K
          · subst e; exact h2
          · exact h1 M (by omega) hd
        · intro h; exact ⟨fun M hM hd => h M (by omega) hd, h K (Nat.lt_succ_self K) (by omega)⟩
      · rw [if_neg c2, ih]
        constructor
        · intro h M hM hd
          by_cases e : M = K
          · subst e; omega
          · exact h M (by omega) hd
        · intro h M hM hd; exact h M (by omega) hd
/- the mask of a set -/
def maskOf (T : Nat → Bool) : Nat → Nat
  | 0 => 0
  | n + 1 => maskOf T n + (if T n = true then 2 ^ n else 0)
theorem maskOf_lt (T : Nat → Bool) : ∀ n, maskOf T n < 2 ^ n
  | 0 => Nat.zero_lt_one
  | n + 1 => by
    have := maskOf_lt T n
    show maskOf T n + _ < 2 ^ (n + 1)
    rw [Nat.pow_succ]; split <;> omega
theorem maskOf_bit (T : Nat → Bool) : ∀ n i, i < n → (maskOf T n).testBit i = T i
  | 0, _, h => absurd h (Nat.not_lt_zero _)
  | n + 1, i, hi => by
    have hlt := maskOf_lt T n
    show (maskOf T n + (if T n = true then 2 ^ n else 0)).testBit i = T i
    by_cases hT : T n = true
    · rw [if_pos hT, Nat.add_comm]
      by_cases e : i = n
      · subst e
        rw [Nat.testBit_two_pow_add_eq, Nat.testBit_lt_two_pow hlt, hT]; rfl
      · rw [Nat.testBit_two_pow_add_gt (by omega)]
        exact maskOf_bit T n i (by omega)
    · rw [if_neg hT, Nat.add_zero]
      by_cases e : i = n
      · subst e
        rw [Nat.testBit_lt_two_pow hlt]; simpa using hT
      · exact maskOf_bit T n i (by omega)
end Go.Proofs.Ytmafnncpdccfdaa
