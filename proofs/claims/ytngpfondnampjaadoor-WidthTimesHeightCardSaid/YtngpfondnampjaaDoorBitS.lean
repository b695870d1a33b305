/- Subset as a truth. -/
import Derived.Test.YtngpfondnampjaaDoorBitB
import Derived.Test.YtngpfondnampjaaDoorBitI
import Derived.Test.YtngpfondnampjaaDoorRel
import Derived.Test.YtngpfondnampjaaDoorRMath
namespace Go.Proofs.YtngpfondnampjaaDoor
open Go.RowKit Go.Sort
theorem testBit_andNot {x y : Nat} (hy : y < 18446744073709551616) (j : Nat) (hj : j < 64) : (andNot x y).testBit j = (x.testBit j && !y.testBit j) := by
  unfold andNot
  have e : 18446744073709551615 - y = 2 ^ 64 - (y + 1) := by omega
  rw [Nat.testBit_and, e, Nat.testBit_two_pow_sub_succ hy]
  simp [hj]
theorem not_lt {x y : Nat} (hx : x < 18446744073709551616) : andNot x y < 18446744073709551616 := Nat.lt_of_le_of_lt Nat.and_le_left hx
theorem in_n {N : Nat} {m : Nat} {f : Nat → Nat} (hf : Vld N m f) {i : Nat} (hi : i < 64 * m) (hb : bt f i = true) : i < N := by
  rcases Nat.lt_or_ge i N with h | h
  · exact h
  · rw [hf.2.2.2 i (by simpa using h) hi] at hb; cases hb
/- inclusion, by words and by bits -/
theorem andNot_zero {x y : Nat} (hx : x < 18446744073709551616) (hy : y < 18446744073709551616) : andNot x y = 0 ↔ ∀ j, j < 64 → x.testBit j = true → y.testBit j = true := by
  constructor
  · intro h j hj hx'
    have := testBit_andNot (x := x) hy j hj
    rw [h, Nat.zero_testBit, hx'] at this
    simpa using this.symm
  · intro h
    refine word_ext (not_lt hx) (by decide) fun j hj => ?_
    rw [testBit_andNot hy j hj, Nat.zero_testBit]
    cases hb : x.testBit j
    · rfl
    · rw [h j hj hb]; rfl
def Sub (f g : Nat → Nat) (m : Nat) : Prop := ∀ i, i < 64 * m → bt f i = true → bt g i = true
theorem sub_words {f g : Nat → Nat} {m : Nat} (hu : U64 f m) (hv : U64 g m) : Sub f g m ↔ ∀ k, k < m → andNot (f k) (g k) = 0 := by
  constructor
  · intro h k hk
    rw [andNot_zero (hu k hk) (hv k hk)]
    intro j hj hb
    have := h (64 * k + j) (by omega)
    rw [bt_at f k j hj, bt_at g k j hj] at this
    exact this hb
  · intro h i hi hb
    have hk : i / 64 < m := by omega
    exact (andNot_zero (hu _ hk) (hv _ hk)).1 (h _ hk) (i % 64) (by omega) hb
/- a first number with a property, or none -/
theorem first_of (p : Nat → Bool) (n : Nat) : (∀ i, i < n → p i = false) ∨ ∃ J, J < n ∧ p J = true ∧ ∀ i, i < J → p i = false := by
  induction n with
  | zero => left; intro i h; omega
  | succ n ih =>
    rcases ih with h | ⟨J, h1, h2, h3⟩
    · cases hp : p n
      · left; intro i hi
        by_cases e : i = n
        · rw [e]; exact hp
        · exact h i (by omega)
      · right; exact ⟨n, by omega, hp, h⟩
    · right; exact ⟨J, by omega, h2, h3⟩
/- Subset, where the two are comparable: whether all members are -/
theorem subset_dec (N : Nat) (A B : Option Addr) (m ca cb : Nat) (f g : Nat → Nat) (hu : U64 f m) (hv : U64 g m) (va : Vld N m f) (vb : Vld N m g) : ∃ v : Bool, (v = true ↔ Sub f g m) ∧
    (∀ w : World, Wds w A m f → Wds w B m g → Calls Tryd.prog 67 #[.agg #[.int .i64 N, .slice A m ca], .agg #[.int .i64 N, .slice B m cb]] w fun e w' => e = .returned (.bool v) ∧ Below w.heap.size w w') := by
  rcases first_of (fun k => !decide (andNot (f k) (g k) = 0)) m with h | ⟨J, h1, h2, h3⟩
  · have hz : ∀ k, k < m → andNot (f k) (g k) = 0 := fun k hk => by simpa using h k hk
    exact ⟨true, ⟨fun _ => (sub_words hu hv).2 hz, fun _ => rfl⟩, fun w h1 h2 => subset_any N A B m ca cb f g m true w h1 h2 va vb (Nat.le_refl _) hz (Or.inl ⟨rfl, rfl⟩)⟩
  · have hne : andNot (f J) (g J) ≠ 0 := by simpa using h2
    refine ⟨false, ⟨(fun h => by cases h), fun hs => absurd ((sub_words hu hv).1 hs J h1) hne⟩, fun w q1 q2 => subset_any N A B m ca cb f g J false w q1 q2 va vb (Nat.le_of_lt h1) (fun k hk => by simpa using h3 k hk) (Or.inr ⟨rfl, h1, hne⟩)⟩
end Go.Proofs.YtngpfondnampjaaDoor
