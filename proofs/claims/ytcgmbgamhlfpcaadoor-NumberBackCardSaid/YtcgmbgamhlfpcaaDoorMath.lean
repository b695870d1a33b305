/- Plain mathematics for the claims over package number: binomial coefficients by the rule of Pascal. -/
namespace Go.Proofs.YtcgmbgamhlfpcaaDoor
def ch : Nat → Nat → Nat
  | _, 0 => 1
  | 0, _ + 1 => 0
  | n + 1, k + 1 => ch n k + ch n (k + 1)
theorem ch_zero (n : Nat) : ch n 0 = 1 := by cases n <;> rfl
theorem ch_succ (n k : Nat) : ch (n + 1) (k + 1) = ch n k + ch n (k + 1) := rfl
theorem ch_over (n : Nat) : ∀ k, n < k → ch n k = 0 := by
  induction n with
  | zero => intro k h; match k, h with | k + 1, _ => rfl
  | succ n ih => intro k h; match k, h with | k + 1, h => rw [ch_succ, ih k (by omega), ih (k + 1) (by omega)]
theorem ch_self (n : Nat) : ch n n = 1 := by
  induction n with
  | zero => rfl
  | succ n ih => rw [ch_succ, ih, ch_over n (n + 1) (by omega)]
theorem ch_absorb (n : Nat) : ∀ k, (k + 1) * ch (n + 1) (k + 1) = (n + 1) * ch n k := by
  induction n with
  | zero =>
    intro k
    match k with
    | 0 => rfl
    | k + 1 => rw [ch_succ, ch_over 0 (k + 1) (by omega), ch_over 0 (k + 1 + 1) (by omega)]; omega
  | succ n ih =>
    intro k
    match k with
    | 0 =>
      have h := ih 0
      rw [ch_zero] at h
      rw [ch_succ, ch_zero]; omega
    | j + 1 =>
      have h1 := ih j
      have h2 := ih (j + 1)
      rw [ch_succ (n + 1) (j + 1), Nat.mul_add, h2]
      have h3 : (j + 1 + 1) * ch (n + 1) (j + 1) = (n + 1) * ch n j + ch (n + 1) (j + 1) := by rw [Nat.add_mul (j + 1) 1, h1, Nat.one_mul]
      rw [h3, Nat.add_mul (n + 1) 1, Nat.one_mul]
      have h4 : (n + 1) * ch (n + 1) (j + 1) = (n + 1) * ch n j + (n + 1) * ch n (j + 1) := by rw [ch_succ, Nat.mul_add]
      omega
theorem ch_symm (n : Nat) : ∀ k, k ≤ n → ch n k = ch n (n - k) := by
  induction n with
  | zero => intro k h; obtain rfl : k = 0 := by omega
            rfl
  | succ n ih =>
    intro k h
    match k, h with
    | 0, _ => rw [ch_zero, Nat.sub_zero, ch_self]
    | k + 1, h =>
      by_cases e : k = n
      · subst e; rw [Nat.sub_self, ch_zero, ch_self]
      · have h1 := ih k (by omega)
        have h2 := ih (k + 1) (by omega)
        obtain ⟨d, hd⟩ : ∃ d, n - k = d + 1 := ⟨n - k - 1, by omega⟩
        have e1 : n + 1 - (k + 1) = d + 1 := by omega
        have e2 : n - (k + 1) = d := by omega
        rw [e1, ch_succ, ch_succ, h1, h2, hd, e2, Nat.add_comm]
theorem ch_mono (n k : Nat) : ch n k ≤ ch (n + 1) (k + 1) := by rw [ch_succ]; omega
theorem ch_diag_mono (m j d : Nat) : ch (m + j) j ≤ ch (m + (j + d)) (j + d) := by
  induction d with
  | zero => exact Nat.le_refl _
  | succ d ih => exact Nat.le_trans ih (ch_mono _ _)
def chSum (n : Nat) : Nat → Nat
  | 0 => 0
  | k + 1 => chSum n k + ch n k
theorem chSum_step (n : Nat) : ∀ k, chSum (n + 1) (k + 1) = chSum n k + chSum n (k + 1) := by
  intro k
  induction k with
  | zero => simp [chSum, ch_zero]
  | succ k ih =>
    have e : chSum (n + 1) (k + 1 + 1) = chSum (n + 1) (k + 1) + ch (n + 1) (k + 1) := rfl
    rw [e, ih, ch_succ]
    simp only [chSum]; omega
theorem chSum_row (n : Nat) : chSum n (n + 1) = 2 ^ n := by
  induction n with
  | zero => rfl
  | succ n ih =>
    rw [chSum_step, ih]
    have : chSum n (n + 1 + 1) = chSum n (n + 1) + ch n (n + 1) := rfl
    rw [this, ch_over n (n + 1) (by omega), ih, Nat.pow_succ]; omega
theorem ch_le_sum (n k : Nat) : ∀ j, k < j → ch n k ≤ chSum n j := by
  intro j
  induction j with
  | zero => intro h; omega
  | succ j ih =>
    intro h
    by_cases e : k = j
    · subst e; simp only [chSum]; omega
    · have := ih (by omega); simp only [chSum]; omega
theorem chSum_le (n j d : Nat) : chSum n j ≤ chSum n (j + d) := by
  induction d with
  | zero => exact Nat.le_refl _
  | succ d ih => exact Nat.le_trans ih (by show chSum n (j + d) ≤ chSum n (j + d) + _; omega)
theorem ch_le_pow (n k : Nat) (h : k ≤ n) : ch n k ≤ 2 ^ n := by rw [← chSum_row]; exact ch_le_sum n k (n + 1) (by omega)
end Go.Proofs.YtcgmbgamhlfpcaaDoor
