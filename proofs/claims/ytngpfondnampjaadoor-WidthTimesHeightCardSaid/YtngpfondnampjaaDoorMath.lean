/- Plain mathematics of sets as lists of words: bits, members, counts, orders. -/
import Derived.Lib.TrailingZeros
namespace Go.Proofs.YtngpfondnampjaaDoor
/- bit i of the words f 0, f 1, .. -/
def bt (f : Nat → Nat) (i : Nat) : Bool := (f (i / 64)).testBit (i % 64)
def U64 (f : Nat → Nat) (m : Nat) : Prop := ∀ k, k < m → f k < 18446744073709551616
theorem bt_at (f : Nat → Nat) (k j : Nat) (hj : j < 64) : bt f (64 * k + j) = (f k).testBit j := by
  unfold bt
  have h1 : (64 * k + j) / 64 = k := by omega
  have h2 : (64 * k + j) % 64 = j := by omega
  rw [h1, h2]
theorem word_ext {x y : Nat} (hx : x < 18446744073709551616) (hy : y < 18446744073709551616) (h : ∀ j, j < 64 → x.testBit j = y.testBit j) : x = y := by
  apply Nat.eq_of_testBit_eq
  intro j
  by_cases hj : j < 64
  · exact h j hj
  · have e : (18446744073709551616 : Nat) = 2 ^ 64 := rfl
    have hp : 2 ^ 64 ≤ 2 ^ j := Nat.pow_le_pow_right (by decide) (by omega)
    rw [Nat.testBit_lt_two_pow (x := x) (by omega), Nat.testBit_lt_two_pow (x := y) (by omega)]
theorem bt_ext {f g : Nat → Nat} {m : Nat} (hf : U64 f m) (hg : U64 g m) (h : ∀ i, i < 64 * m → bt f i = bt g i) : ∀ k, k < m → f k = g k := by
  intro k hk
  refine word_ext (hf k hk) (hg k hk) (fun j hj => ?_)
  rw [← bt_at f k j hj, ← bt_at g k j hj]
  exact h _ (by omega)
theorem bt_congr {f g : Nat → Nat} {m : Nat} (h : ∀ k, k < m → f k = g k) : ∀ i, i < 64 * m → bt f i = bt g i := by
  intro i hi
  unfold bt
  rw [h (i / 64) (by omega)]
/- a set: N, the number of words, the words -/
def Vld (N : Int) (m : Nat) (f : Nat → Nat) : Prop := 0 ≤ N ∧ N ≤ 512 ∧ m = (N.toNat + 63) / 64 ∧ ∀ i, N.toNat ≤ i → i < 64 * m → bt f i = false
theorem shift_zero (x u : Nat) (hx : x < 18446744073709551616) : x / 2 ^ u = 0 ↔ ∀ j, u ≤ j → j < 64 → x.testBit j = false := by
  constructor
  · intro h j hj _
    have hp : 0 < 2 ^ u := Nat.two_pow_pos u
    have hlt : x < 2 ^ u := by
      rcases Nat.lt_or_ge x (2 ^ u) with h1 | h1
      · exact h1
      · have := Nat.div_pos h1 hp; omega
    exact Nat.testBit_lt_two_pow (Nat.lt_of_lt_of_le hlt (Nat.pow_le_pow_right (by decide) hj))
  · intro h
    apply Nat.div_eq_of_lt
    apply Nat.lt_of_not_le
    intro hle
    have e : (18446744073709551616 : Nat) = 2 ^ 64 := rfl
    obtain ⟨i, hi, hb⟩ := Nat.exists_ge_and_testBit_of_ge_two_pow hle
    rcases Nat.lt_or_ge i 64 with h64 | h64
    · rw [h i hi h64] at hb; cases hb
    · have hp : 2 ^ 64 ≤ 2 ^ i := Nat.pow_le_pow_right (by decide) h64
      rw [Nat.testBit_lt_two_pow (x := x) (by omega)] at hb; cases hb
/- the test of the highest word -/
theorem vld_last {N : Nat} {m : Nat} {f : Nat → Nat} (hu : U64 f m) (h2 : N ≤ 512) (hm : m = (N + 63) / 64) :
    Vld N m f ↔ N % 64 = 0 ∨ f (m - 1) / 2 ^ (N % 64) = 0 := by
  constructor
  · intro h
    by_cases h0 : N % 64 = 0
    · exact Or.inl h0
    · right
      rw [shift_zero _ _ (hu _ (by omega))]
      intro j hj hj2
      rw [← bt_at f (m - 1) j hj2]
      exact h.2.2.2 _ (by simp only [Int.toNat_natCast]; omega) (by omega)
  · intro h
    refine ⟨by omega, by omega, by simpa using hm, fun i hi hi2 => ?_⟩
    simp only [Int.toNat_natCast] at hi
    rcases h with h | h
    · omega
    · rw [shift_zero _ _ (hu _ (by omega))] at h
      have hk : i / 64 = m - 1 := by omega
      unfold bt
      rw [hk]
      exact h _ (by omega) (by omega)
/- the members, ascending -/
def mem (f : Nat → Nat) (n : Nat) : List Nat := (List.range n).filter (bt f)
theorem mem_succ (f : Nat → Nat) (n : Nat) : mem f (n + 1) = mem f n ++ if bt f n then [n] else [] := by
  unfold mem
  rw [List.range_succ, List.filter_append]
  by_cases h : bt f n <;> simp [h]
theorem mem_in {f : Nat → Nat} {n i : Nat} : i ∈ mem f n ↔ i < n ∧ bt f i = true := by simp [mem]
theorem mem_congr {f g : Nat → Nat} {n : Nat} (h : ∀ i, i < n → bt f i = bt g i) : mem f n = mem g n := by
  unfold mem
  apply List.filter_congr
  intro i hi
  exact h i (by simpa using hi)
theorem mem_more (f : Nat → Nat) (n d : Nat) (h : ∀ i, n ≤ i → i < n + d → bt f i = false) : mem f (n + d) = mem f n := by
  induction d with
  | zero => rfl
  | succ d ih =>
    rw [show n + (d + 1) = n + d + 1 by omega, mem_succ, ih (fun i h1 h2 => h i h1 (by omega)), h (n + d) (by omega) (by omega)]
    simp
theorem mem_all {N : Int} {m : Nat} {f : Nat → Nat} (h : Vld N m f) : mem f (64 * m) = mem f N.toNat := by
  obtain ⟨h0, h1, hm, hb⟩ := h
  have e : 64 * m = N.toNat + (64 * m - N.toNat) := by omega
  rw [e]
  exact mem_more f _ _ (fun i h1 h2 => hb i h1 (by omega))
theorem mem_len_le (f : Nat → Nat) (n : Nat) : (mem f n).length ≤ n := by
  have := List.length_filter_le (bt f) (List.range n)
  simpa [mem] using this
/- the bits of one word, ascending -/
def wb (x : Nat) : List Nat := (List.range 64).filter x.testBit
theorem range_add (n d : Nat) : List.range (n + d) = List.range n ++ (List.range d).map (n + ·) := by
  induction d with
  | zero => simp
  | succ d ih => rw [show n + (d + 1) = n + d + 1 by omega, List.range_succ, ih, List.range_succ, List.map_append, List.append_assoc]; rfl
theorem mem_word (f : Nat → Nat) (k : Nat) : mem f (64 * (k + 1)) = mem f (64 * k) ++ (wb (f k)).map (64 * k + ·) := by
  unfold mem wb
  rw [show 64 * (k + 1) = 64 * k + 64 by omega, range_add, List.filter_append, List.filter_map]
  congr 2
  apply List.filter_congr
  intro j hj
  exact bt_at f k j (by simpa using hj)
def pop (x : Nat) : Nat := (wb x).length
def cnt (f : Nat → Nat) : Nat → Nat
  | 0 => 0
  | k + 1 => cnt f k + pop (f k)
theorem cnt_mem (f : Nat → Nat) (k : Nat) : cnt f k = (mem f (64 * k)).length := by
  induction k with
  | zero => rfl
  | succ k ih => rw [mem_word, List.length_append, List.length_map, ← ih]; rfl
theorem pop_le (x : Nat) : pop x ≤ 64 := by
  have := List.length_filter_le x.testBit (List.range 64)
  simpa [pop, wb] using this
theorem cnt_le (f : Nat → Nat) (k : Nat) : cnt f k ≤ 64 * k := by rw [cnt_mem]; exact mem_len_le f _
/- the lowest bit of a word -/
theorem ctz_spec {x : Nat} (h0 : x ≠ 0) (h : x < 18446744073709551616) : Lib.ctz 64 x < 64 ∧ x.testBit (Lib.ctz 64 x) = true ∧ ∀ j, j < Lib.ctz 64 x → x.testBit j = false := by
  obtain ⟨m, hm, hk⟩ := Lib.ctzFrom_spec 64 x (by omega) h
  have e : Lib.ctz 64 x = Lib.ctzFrom 64 x := by simp [Lib.ctz, h0]
  rw [e]
  have hb : ∀ j, x.testBit j = (2 ^ Lib.ctzFrom 64 x * (2 * m + 1)).testBit j := fun j => by rw [← hm]
  refine ⟨hk, ?_, fun j hj => ?_⟩
  · rw [hb, Nat.mul_comm, Nat.testBit_mul_two_pow]
    simp [Nat.testBit_zero]
  · rw [hb, Nat.mul_comm, Nat.testBit_mul_two_pow]
    simp; omega
theorem low_of {x : Nat} (h0 : x ≠ 0) (h : x < 18446744073709551616) (j : Nat) : (x &&& (x - 1)).testBit j = (x.testBit j && decide (j ≠ Lib.ctz 64 x)) := by
  obtain ⟨m, hm, hk⟩ := Lib.ctzFrom_spec 64 x (by omega) h
  have e : Lib.ctz 64 x = Lib.ctzFrom 64 x := by simp [Lib.ctz, h0]
  rw [e]
  generalize Lib.ctzFrom 64 x = c at hm hk
  have hp : 0 < 2 ^ c := Nat.two_pow_pos c
  have hx1 : x - 1 = 2 ^ c * (2 * m) + (2 ^ c - 1) := by rw [hm, Nat.mul_add]; omega
  rw [Nat.testBit_and, hx1]
  have hm' : x = 2 ^ c * (2 * m + 1) + 0 := by omega
  rw [hm']
  by_cases hj : j < c
  · rw [Nat.testBit_two_pow_mul_add _ hp, if_pos hj, Nat.zero_testBit]; rfl
  · rw [Nat.testBit_two_pow_mul_add _ hp, if_neg hj, Nat.testBit_two_pow_mul_add _ (by omega), if_neg hj]
    by_cases he : j = c
    · subst he; simp
    · obtain ⟨d, rfl⟩ : ∃ d, j = c + (d + 1) := ⟨j - c - 1, by omega⟩
      have e3 : c + (d + 1) - c = d + 1 := by omega
      rw [e3, Nat.testBit_succ, Nat.testBit_succ, show (2 * m + 1) / 2 = m by omega, show 2 * m / 2 = m by omega]
      simp
theorem low_lt {x : Nat} (h0 : x ≠ 0) : x &&& (x - 1) < x := Nat.lt_of_le_of_lt (Nat.and_le_right) (by omega)
theorem filter_first (p : Nat → Bool) (n c : Nat) (hc : c < n) (hp : p c = true) (hl : ∀ j, j < c → p j = false) : (List.range n).filter p = c :: (List.range n).filter (fun j => p j && decide (j ≠ c)) := by
  obtain ⟨d, rfl⟩ : ∃ d, n = c + (1 + d) := ⟨n - c - 1, by omega⟩
  rw [range_add, List.filter_append, List.filter_append]
  have h1 : (List.range c).filter p = [] := by
    rw [List.filter_eq_nil_iff]; intro j hj; simp [hl j (by simpa using hj)]
  have h2 : (List.range c).filter (fun j => p j && decide (j ≠ c)) = [] := by
    rw [List.filter_eq_nil_iff]; intro j hj; simp [hl j (by simpa using hj)]
  rw [h1, h2, range_add 1 d, List.map_append, List.filter_append, List.filter_append]
  have e1 : ([0].map (c + ·)) = [c] := rfl
  rw [show List.range 1 = [0] from rfl, e1]
  simp only [List.nil_append, List.filter_cons, hp, List.filter_nil, if_true, List.cons_append, ne_eq, not_true_eq_false, decide_false, Bool.and_false, Bool.false_eq_true, if_false]
  congr 1
  apply List.filter_congr
  intro j hj
  simp only [List.map_map, List.mem_map, List.mem_range, Function.comp] at hj
  obtain ⟨a, _, rfl⟩ := hj
  simp
theorem wb_step {x : Nat} (h0 : x ≠ 0) (h : x < 18446744073709551616) : wb x = Lib.ctz 64 x :: wb (x &&& (x - 1)) := by
  obtain ⟨h1, h2, h3⟩ := ctz_spec h0 h
  unfold wb
  rw [filter_first x.testBit 64 _ h1 h2 h3]
  congr 1
  apply List.filter_congr
  intro j _
  exact (low_of h0 h j).symm
theorem wb_zero : wb 0 = [] := by unfold wb; rw [List.filter_eq_nil_iff]; intro j _; simp
/- the set with one number more; the set of the first numbers of a list -/
def wt (f : Nat → Nat) (i : Nat) : Nat → Nat := fun k => if k = i / 64 then f k ||| 2 ^ (i % 64) else f k
def ow (z : Nat → Nat) : Nat → Nat → Nat
  | 0 => fun _ => 0
  | K + 1 => wt (ow z K) (z K)
theorem two_pow_u64 (j : Nat) (h : j < 64) : 2 ^ j < 18446744073709551616 := by
  have e : (18446744073709551616 : Nat) = 2 ^ 64 := rfl
  rw [e]; exact Nat.pow_lt_pow_right (by decide) h
theorem or_u64 {x y : Nat} (hx : x < 18446744073709551616) (hy : y < 18446744073709551616) : x ||| y < 18446744073709551616 := Nat.or_lt_two_pow (n := 64) hx hy
theorem wt_u64 {f : Nat → Nat} {m : Nat} (h : U64 f m) (i : Nat) : U64 (wt f i) m := by
  intro k hk
  unfold wt
  by_cases e : k = i / 64
  · rw [if_pos e]; exact or_u64 (h k hk) (two_pow_u64 _ (by omega))
  · rw [if_neg e]; exact h k hk
theorem ow_u64 (z : Nat → Nat) (K m : Nat) : U64 (ow z K) m := by
  induction K with
  | zero => intro k _; show 0 < _; omega
  | succ K ih => exact wt_u64 ih _
theorem bt_wt (f : Nat → Nat) (i j : Nat) : bt (wt f i) j = (bt f j || decide (j = i)) := by
  unfold bt wt
  by_cases e : j / 64 = i / 64
  · rw [if_pos e, Nat.testBit_or, Nat.testBit_two_pow]
    have : (i % 64 = j % 64) ↔ (j = i) := by omega
    simp [this]
  · rw [if_neg e]
    have : ¬ j = i := by intro h; exact e (by rw [h])
    simp [this]
theorem bt_ow (z : Nat → Nat) (K i : Nat) : bt (ow z K) i = true ↔ ∃ j, j < K ∧ z j = i := by
  induction K with
  | zero => simp [bt, ow]
  | succ K ih =>
    show bt (wt (ow z K) (z K)) i = true ↔ _
    rw [bt_wt, Bool.or_eq_true, ih, decide_eq_true_iff]
    constructor
    · rintro (⟨j, hj, h⟩ | h)
      · exact ⟨j, by omega, h⟩
      · exact ⟨K, by omega, h.symm⟩
    · rintro ⟨j, hj, h⟩
      by_cases e : j = K
      · right; rw [← h, e]
      · left; exact ⟨j, by omega, h⟩
theorem ow_congr {z y : Nat → Nat} (K : Nat) (h : ∀ j, j < K → z j = y j) : ow z K = ow y K := by
  induction K with
  | zero => rfl
  | succ K ih =>
    show wt (ow z K) (z K) = wt (ow y K) (y K)
    rw [ih (fun j hj => h j (by omega)), h K (by omega)]
end Go.Proofs.YtngpfondnampjaaDoor
