/- The contracts of the small functions of package bits: sizes, places, one bit, the lowest bit, the closures. -/
import Derived.Test.YtngpfondnampjaaDoorProg
import Derived.WalkKit
import Derived.WalkSpells
import Derived.WalkLawsBesides
import Derived.Lib.Hide
import Derived.Test.YtngpfondnampjaaDoorPop
import Derived.Deep.QuietTactic
import Derived.BigQuiet
import Derived.Laws.BitsAllLaws
import Derived.Laws.ShiftsVarLaws
namespace Go.Proofs.YtngpfondnampjaaDoor
open Go.RowKit
theorem isSize_yes (n : Int) (w : World) (h0 : 0 ≤ n) (h1 : n ≤ 512) : Calls Tryd.prog 68 #[.int .i64 n] w fun e w' => e = .returned (.bool true) ∧ w = w' := by
  go_enter Tryd.func68, Tryd.ntmps68
  go_wp2
  go_ret
  exact ⟨rfl, rfl⟩
theorem isSize_no (n : Int) (w : World) (h : n < 0 ∨ 512 < n) : Calls Tryd.prog 68 #[.int .i64 n] w fun e w' => e = .returned (.bool false) ∧ w = w' := by
  rcases h with h | h
  · go_enter Tryd.func68, Tryd.ntmps68
    go_wp2
    go_ret
    exact ⟨rfl, rfl⟩
  · have hd : decide (n ≤ 512) = false := by simpa using h
    go_enter Tryd.func68, Tryd.ntmps68
    go_wp2
    go_ret
    exact ⟨rfl, rfl⟩
theorem isIndex_yes (i n : Int) (w : World) (h0 : 0 ≤ i) (h1 : i < n) : Calls Tryd.prog 82 #[.int .i64 i, .int .i64 n] w fun e w' => e = .returned (.bool true) ∧ w = w' := by
  go_enter Tryd.func82, Tryd.ntmps82
  go_wp2
  go_ret
  exact ⟨rfl, rfl⟩
theorem isIndex_no (i n : Int) (w : World) (h : i < 0 ∨ n ≤ i) : Calls Tryd.prog 82 #[.int .i64 i, .int .i64 n] w fun e w' => e = .returned (.bool false) ∧ w = w' := by
  by_cases h0 : i < 0
  · clear h
    go_enter Tryd.func82, Tryd.ntmps82
    go_wp2
    go_ret
    exact ⟨rfl, rfl⟩
  · have h1 : 0 ≤ i := by omega
    have hd : decide (i < n) = false := by simpa using (show n ≤ i by omega)
    clear h h0
    go_enter Tryd.func82, Tryd.ntmps82
    go_wp2
    go_ret
    exact ⟨rfl, rfl⟩
theorem ret_of {k : IntKind} {a b : Int} (h : a = b) : Ending.returned (.int k a) = .returned (.int k b) := by rw [h]
theorem wordCount_any (n : Nat) (w : World) (h : n ≤ 512) : Calls Tryd.prog 69 #[.int .i64 n] w fun e w' => e = .returned (.int .i64 ((n + 63) / 64 : Nat)) ∧ w = w' := by
  go_enter Tryd.func69, Tryd.ntmps69
  go_wp2
  go_ret
  exact ⟨ret_of (by omega), rfl⟩
theorem wrap_u64 (n : Int) (h0 : 0 ≤ n) (h : n < 18446744073709551616) : IntKind.u64.wrap n = n := by
  rw [IntKind.wrap_u64]; omega
theorem pow_lt (j : Nat) (h : j < 64) : 2 ^ j < 18446744073709551616 := by
  have e : (18446744073709551616 : Nat) = 2 ^ 64 := rfl
  rw [e]; exact Nat.pow_lt_pow_right (by decide) h
theorem bitOf_any (i : Nat) (w : World) (h : i < 512) : Calls Tryd.prog 83 #[.int .i64 i] w fun e w' => e = .returned (.int .u64 (2 ^ (i % 64) : Nat)) ∧ w = w' := by
  go_enter Tryd.func83, Tryd.ntmps83
  go_wp2
  go_ret
  refine ⟨ret_of ?_, rfl⟩
  have e : ((2 : Int) ^ (i % 64)) = ((2 ^ (i % 64) : Nat) : Int) := by simp
  rw [e]
  exact wrap_u64 _ (Int.natCast_nonneg _) (Int.ofNat_lt.2 (pow_lt (i % 64) (by omega)))
theorem withoutLeast_any (x : Nat) (w : World) (h0 : 1 ≤ x) (h : x < 18446744073709551616) : Calls Tryd.prog 88 #[.int .u64 x] w fun e w' => e = .returned (.int .u64 (x &&& (x - 1) : Nat)) ∧ w = w' := by
  go_enter Tryd.func88, Tryd.ntmps88
  go_wp2
  go_ret
  refine ⟨ret_of ?_, rfl⟩
  have e : (x : Int) - 1 = ((x - 1 : Nat) : Int) := by omega
  rw [e]
  exact u64_and_nat x (x - 1) h (by omega)
theorem withoutLeast_zero (w : World) : Calls Tryd.prog 88 #[.int .u64 0] w fun e w' => e = .returned (.int .u64 0) ∧ w = w' := by
  go_enter Tryd.func88, Tryd.ntmps88
  go_wp2
  go_ret
  exact ⟨ret_of (by decide), rfl⟩
/- a function on two words that a closure computes -/
def Cl (g : Nat) (op : Nat → Nat → Nat) : Prop := ∀ (x y : Nat) (w : World), x < 18446744073709551616 → y < 18446744073709551616 → Calls Tryd.prog g #[.int .u64 x, .int .u64 y] w fun e w' => e = .returned (.int .u64 (op x y : Nat)) ∧ w = w'
def andNot (x y : Nat) : Nat := x &&& (18446744073709551615 - y)
theorem cl61 : Cl 81 (· ||| ·) := by
  intro x y w h h2
  go_enter Tryd.func81, Tryd.ntmps81
  go_wp2
  go_ret
  exact ⟨ret_of (u64_or_nat x y h h2), rfl⟩
theorem and_le_r (a m : Nat) : a &&& m ≤ m := Nat.and_le_right
theorem and_u64 (a m : Nat) (ha : a < 18446744073709551616) (hm : m < 18446744073709551616) : bits .and .u64 (a : Int) (m : Int) = ((a &&& m : Nat) : Int) := u64_and_nat a m ha hm
theorem wrap_nat (a : Nat) (h : a < 18446744073709551616) : IntKind.u64.wrap (a : Int) = (a : Int) := wrap_u64 _ (by omega) (by omega)
theorem pp1_eq (x : Nat) (h : x < 18446744073709551616) : IntKind.u64.wrap (bits .and .u64 ((x : Int) / 2) 6148914691236517205 + bits .and .u64 (x : Int) 6148914691236517205) = ((pp1 x : Nat) : Int) ∧ pp1 x < 18446744073709551616 := by
  have h1 : bits .and .u64 ((x : Int) / 2) 6148914691236517205 = (((x / 2) &&& 6148914691236517205 : Nat) : Int) := and_u64 (x / 2) 6148914691236517205 (by omega) (by omega)
  have h2 : bits .and .u64 (x : Int) 6148914691236517205 = ((x &&& 6148914691236517205 : Nat) : Int) := and_u64 x 6148914691236517205 (by omega) (by omega)
  have b1 := and_le_r (x / 2) 6148914691236517205
  have b2 := and_le_r x 6148914691236517205
  rw [h1, h2]
  have e : (((x / 2) &&& 6148914691236517205 : Nat) : Int) + ((x &&& 6148914691236517205 : Nat) : Int) = ((pp1 x : Nat) : Int) := by unfold pp1; omega
  rw [e]
  have hb : pp1 x < 18446744073709551616 := by unfold pp1; omega
  exact ⟨wrap_nat _ hb, hb⟩
theorem pp2_eq (x : Nat) (h : x < 18446744073709551616) : IntKind.u64.wrap (bits .and .u64 ((x : Int) / 4) 3689348814741910323 + bits .and .u64 (x : Int) 3689348814741910323) = ((pp2 x : Nat) : Int) ∧ pp2 x < 7378697629483820647 := by
  have h1 : bits .and .u64 ((x : Int) / 4) 3689348814741910323 = (((x / 4) &&& 3689348814741910323 : Nat) : Int) := and_u64 (x / 4) 3689348814741910323 (by omega) (by omega)
  have h2 : bits .and .u64 (x : Int) 3689348814741910323 = ((x &&& 3689348814741910323 : Nat) : Int) := and_u64 x 3689348814741910323 (by omega) (by omega)
  have b1 := and_le_r (x / 4) 3689348814741910323
  have b2 := and_le_r x 3689348814741910323
  rw [h1, h2]
  have e : (((x / 4) &&& 3689348814741910323 : Nat) : Int) + ((x &&& 3689348814741910323 : Nat) : Int) = ((pp2 x : Nat) : Int) := by unfold pp2; omega
  rw [e]
  have hb : pp2 x < 7378697629483820647 := by unfold pp2; omega
  exact ⟨wrap_nat _ (by omega), hb⟩
theorem pp3_eq (x : Nat) (h : x < 7378697629483820647) : bits .and .u64 (IntKind.u64.wrap ((x : Int) / 16 + (x : Int))) 1085102592571150095 = ((pp3 x : Nat) : Int) ∧ pp3 x < 1085102592571150096 := by
  have e : (x : Int) / 16 + (x : Int) = ((x / 16 + x : Nat) : Int) := by omega
  have b1 := and_le_r (x / 16 + x) 1085102592571150095
  rw [e, wrap_nat _ (by omega)]
  exact ⟨and_u64 (x / 16 + x) 1085102592571150095 (by omega) (by omega), by unfold pp3; omega⟩
theorem wraps_i64 (n : Int) (h₀ : 0 ≤ n) (h₁ : n < 2 ^ 63) : IntKind.i64.wrap n = n := by rw [IntKind.wrap_i64]; omega
set_option maxHeartbeats 1000000 in
theorem ones_any (x : Nat) (w : World) (h : x < 18446744073709551616) : Calls Tryd.prog 74 #[.int .u64 x] w fun e w' => e = .returned (.int .i64 (pop x : Nat)) ∧ w = w' := by
  obtain ⟨p1, q1⟩ := pp1_eq x h
  obtain ⟨p2, q2⟩ := pp2_eq (pp1 x) q1
  obtain ⟨p3, q3⟩ := pp3_eq (pp2 (pp1 x)) q2
  obtain ⟨r1, r2⟩ := pop_sum x h _ rfl
  have P1 := Lib.hid p1; clear p1
  have P2 := Lib.hid p2; clear p2
  have P3 := Lib.hid p3; clear p3
  have R2 := Lib.hid r2; clear r2
  have R1 := Lib.hid r1; clear r1
  go_enter Tryd.func74, Tryd.ntmps74
  go_wp2
  go_ret
  refine ⟨ret_of ?_, rfl⟩
  show bits .and .i64 _ _ = _
  have r1 := R1.out
  have r2 := R2.out
  rw [P1.out, P2.out, P3.out]
  generalize pp3 (pp2 (pp1 x)) = y at q3 r1 r2
  have e1 : IntKind.u64.wrap ((y : Int) + (y : Int) / 256) = ((y + y / 256 : Nat) : Int) := by
    have : (y : Int) + (y : Int) / 256 = ((y + y / 256 : Nat) : Int) := by omega
    rw [this]; exact wrap_nat _ (by omega)
  rw [e1]
  generalize y + y / 256 = z at r1 r2
  have e2 : IntKind.u64.wrap ((z : Int) + (z : Int) / 65536) = ((z + z / 65536 : Nat) : Int) := by
    have : (z : Int) + (z : Int) / 65536 = ((z + z / 65536 : Nat) : Int) := by omega
    rw [this]; exact wrap_nat _ (by omega)
  rw [e2]
  generalize z + z / 65536 = u at r1 r2
  have e3 : IntKind.u64.wrap ((u : Int) + (u : Int) / 4294967296) = ((u + u / 4294967296 : Nat) : Int) := by
    have : (u : Int) + (u : Int) / 4294967296 = ((u + u / 4294967296 : Nat) : Int) := by omega
    rw [this]; exact wrap_nat _ (by omega)
  rw [e3]
  generalize u + u / 4294967296 = v at r1 r2
  rw [IntWalk.wrap64_in _ ⟨by omega, by omega⟩]
  have := bits_mask .i64 63 (by decide) wraps_i64 7 (by decide) (v : Int) (by omega) (by omega)
  rw [show ((2 : Int) ^ 7 - 1) = 127 from rfl, show ((2 : Int) ^ 7) = 128 from rfl] at this
  rw [this, ← r2]; omega
theorem least_bit {d : Nat} (h0 : d ≠ 0) (h : d < 18446744073709551616) : d &&& (18446744073709551615 - (d &&& (d - 1))) = 2 ^ Lib.ctz 64 d := by
  obtain ⟨c1, c2, c3⟩ := ctz_spec h0 h
  have hl : d &&& (d - 1) < 2 ^ 64 := Nat.lt_of_le_of_lt Nat.and_le_left h
  have hd2 : d &&& (18446744073709551615 - (d &&& (d - 1))) < 18446744073709551616 := Nat.lt_of_le_of_lt Nat.and_le_left h
  refine word_ext hd2 (pow_lt _ c1) (fun j hj => ?_)
  have e : 18446744073709551615 - (d &&& (d - 1)) = 2 ^ 64 - ((d &&& (d - 1)) + 1) := by omega
  rw [Nat.testBit_and, e, Nat.testBit_two_pow_sub_succ hl, low_of h0 h j, Nat.testBit_two_pow]
  by_cases hc : j = Lib.ctz 64 d
  · subst hc; simp [c2, c1]
  · have hc' : ¬ Lib.ctz 64 d = j := fun h => hc h.symm
    cases d.testBit j <;> simp [hc, hc']
theorem and_pow (x i : Nat) : x &&& 2 ^ i = (x.testBit i).toNat * 2 ^ i := by
  apply Nat.eq_of_testBit_eq
  intro j
  rw [Nat.testBit_and, Nat.testBit_two_pow]
  cases h : x.testBit i
  · simp only [Bool.toNat_false, Nat.zero_mul, Nat.zero_testBit]
    by_cases e : i = j
    · subst e; simp [h]
    · simp [e]
  · simp only [Bool.toNat_true, Nat.one_mul, Nat.testBit_two_pow]
    by_cases e : i = j
    · subst e; simp [h]
    · simp [e]
end Go.Proofs.YtngpfondnampjaaDoor
