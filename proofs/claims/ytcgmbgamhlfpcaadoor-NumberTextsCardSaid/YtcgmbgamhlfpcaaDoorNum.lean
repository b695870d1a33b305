/- The contracts of package number's functions on numbers: isNumber, abs, Add, Mul, Floor, Gcd, Choose. -/
import Derived.Test.YtcgmbgamhlfpcaaDoorProg
import Derived.WalkKit
import Derived.WalkSpells
import Derived.WalkLawsBesides
import Derived.Lib.Hide
import Derived.Test.YtcgmbgamhlfpcaaDoorMath
import Derived.Deep.QuietTactic
import Derived.BigQuiet
namespace Go.Proofs.YtcgmbgamhlfpcaaDoor
open Go.RowKit

theorem isNum_yes (n : Int) (w : World) (h0 : -1125899906842624 ≤ n) (h1 : n ≤ 1125899906842624) :
    Calls Tryd.prog 30 #[.int .i64 n] w fun e w' => e = .returned (.bool true) ∧ w = w' := by
  go_enter Tryd.func30, Tryd.ntmps30
  go_wp2
  go_ret
  exact ⟨rfl, rfl⟩
theorem isNum_no (n : Int) (w : World) (h : n < -1125899906842624 ∨ 1125899906842624 < n) :
    Calls Tryd.prog 30 #[.int .i64 n] w fun e w' => e = .returned (.bool false) ∧ w = w' := by
  rcases h with h | h
  · go_enter Tryd.func30, Tryd.ntmps30
    go_wp2
    go_ret
    exact ⟨rfl, rfl⟩
  · have hd : decide (n ≤ 1125899906842624) = false := by simpa using h
    go_enter Tryd.func30, Tryd.ntmps30
    go_wp2
    go_ret
    exact ⟨rfl, rfl⟩
theorem add_range (a b : Int) (w : World) (h : (a < -1125899906842624 ∨ 1125899906842624 < a) ∨ (b < -1125899906842624 ∨ 1125899906842624 < b)) :
    Calls Tryd.prog 11 #[.int .i64 a, .int .i64 b] w fun e w' => e = .returned (.tuple #[.int .i64 0, .int .i64 2]) ∧ w = w' := by
  by_cases ha : -1125899906842624 ≤ a ∧ a ≤ 1125899906842624
  · have hb : b < -1125899906842624 ∨ 1125899906842624 < b := by omega
    have H := Lib.hid h; clear h
    go_enter Tryd.func11, Tryd.ntmps11
    go_wp2_with fail
    refine (isNum_yes _ _ ha.1 ha.2).mono ?_; rintro e w' ⟨rfl, rfl⟩
    go_wp2_with fail
    refine (isNum_no _ _ hb).mono ?_; rintro e w' ⟨rfl, rfl⟩
    go_wp2
    go_ret2
    exact ⟨rfl, rfl⟩
  · go_enter Tryd.func11, Tryd.ntmps11
    go_wp2_with fail
    refine (isNum_no _ _ (by omega)).mono ?_; rintro e w' ⟨rfl, rfl⟩
    go_wp2
    go_ret2
    exact ⟨rfl, rfl⟩
theorem add_ok (a b : Int) (w : World) (ha : -1125899906842624 ≤ a ∧ a ≤ 1125899906842624) (hb : -1125899906842624 ≤ b ∧ b ≤ 1125899906842624) (hs : -1125899906842624 ≤ a + b ∧ a + b ≤ 1125899906842624) :
    Calls Tryd.prog 11 #[.int .i64 a, .int .i64 b] w fun e w' => e = .returned (.tuple #[.int .i64 (a + b), .int .i64 0]) ∧ w = w' := by
  obtain ⟨ha0, ha1⟩ := ha
  obtain ⟨hb0, hb1⟩ := hb
  obtain ⟨hs0, hs1⟩ := hs
  go_enter Tryd.func11, Tryd.ntmps11
  go_wp2_with fail
  refine (isNum_yes _ _ ha0 ha1).mono ?_; rintro e w' ⟨rfl, rfl⟩
  go_wp2_with fail
  refine (isNum_yes _ _ hb0 hb1).mono ?_; rintro e w' ⟨rfl, rfl⟩
  go_wp2_with fail
  refine (isNum_yes _ _ hs0 hs1).mono ?_; rintro e w' ⟨rfl, rfl⟩
  go_wp2
  go_ret2
  exact ⟨rfl, rfl⟩
theorem add_big (a b : Int) (w : World) (ha : -1125899906842624 ≤ a ∧ a ≤ 1125899906842624) (hb : -1125899906842624 ≤ b ∧ b ≤ 1125899906842624) (hs : a + b < -1125899906842624 ∨ 1125899906842624 < a + b) :
    Calls Tryd.prog 11 #[.int .i64 a, .int .i64 b] w fun e w' => e = .returned (.tuple #[.int .i64 0, .int .i64 9]) ∧ w = w' := by
  obtain ⟨ha0, ha1⟩ := ha
  obtain ⟨hb0, hb1⟩ := hb
  go_enter Tryd.func11, Tryd.ntmps11
  go_wp2_with fail
  refine (isNum_yes _ _ ha0 ha1).mono ?_; rintro e w' ⟨rfl, rfl⟩
  go_wp2_with fail
  refine (isNum_yes _ _ hb0 hb1).mono ?_; rintro e w' ⟨rfl, rfl⟩
  go_wp2_with fail
  refine (isNum_no _ _ hs).mono ?_; rintro e w' ⟨rfl, rfl⟩
  go_wp2
  go_ret2
  exact ⟨rfl, rfl⟩

def iabs (n : Int) : Int := if n < 0 then -n else n
theorem iabs_pos {n : Int} (h : 0 ≤ n) : iabs n = n := by unfold iabs; rw [if_neg (by omega)]
theorem iabs_neg {n : Int} (h : n < 0) : iabs n = -n := by unfold iabs; rw [if_pos h]
theorem iabs_nonneg (n : Int) : 0 ≤ iabs n := by unfold iabs; split <;> omega
theorem iabs_le {n M : Int} (h0 : -M ≤ n) (h1 : n ≤ M) : iabs n ≤ M := by unfold iabs; split <;> omega
theorem ret_int1 {k : IntKind} {a b : Int} (h : a = b) : Ending.returned (.int k a) = Ending.returned (.int k b) := by rw [h]
theorem abs_any (n : Int) (w : World) (h0 : -1125899906842624 ≤ n) (h1 : n ≤ 1125899906842624) :
    Calls Tryd.prog 31 #[.int .i64 n] w fun e w' => e = .returned (.int .i64 (iabs n)) ∧ w = w' := by
  by_cases h : n < 0
  · rw [iabs_neg h]
    go_enter Tryd.func31, Tryd.ntmps31
    go_wp2
    go_ret
    first | exact ⟨rfl, rfl⟩ | exact ⟨ret_int1 (by omega), rfl⟩
  · rw [iabs_pos (by omega)]
    go_enter Tryd.func31, Tryd.ntmps31
    go_wp2
    go_ret
    first | exact ⟨rfl, rfl⟩ | exact ⟨ret_int1 (by omega), rfl⟩

theorem mul_bound {a b M : Int} (ha : a ≠ 0) (h : iabs b ≤ M / iabs a) : -M ≤ a * b ∧ a * b ≤ M := by
  have hp : 0 < iabs a := by unfold iabs; split <;> omega
  have hm : iabs b * iabs a ≤ M := (Int.le_ediv_iff_mul_le hp).1 h
  have key : a * b = iabs b * iabs a ∨ a * b = -(iabs b * iabs a) := by
    unfold iabs
    by_cases h1 : a < 0 <;> by_cases h2 : b < 0 <;> simp only [h1, h2, if_true, if_false]
    · left; rw [Int.neg_mul_neg, Int.mul_comm]
    · right; rw [Int.mul_neg, Int.neg_neg, Int.mul_comm]
    · right; rw [Int.neg_mul, Int.neg_neg, Int.mul_comm]
    · left; rw [Int.mul_comm]
  have h0 : 0 ≤ iabs b * iabs a := Int.mul_nonneg (iabs_nonneg b) (iabs_nonneg a)
  rcases key with k | k <;> omega
def fitsMul (a b : Int) : Bool := decide (a = 0 ∨ iabs b ≤ 1125899906842624 / iabs a)
theorem mul_range (a b : Int) (w : World) (h : (a < -1125899906842624 ∨ 1125899906842624 < a) ∨ (b < -1125899906842624 ∨ 1125899906842624 < b)) :
    Calls Tryd.prog 12 #[.int .i64 a, .int .i64 b] w fun e w' => e = .returned (.tuple #[.int .i64 0, .int .i64 2]) ∧ w = w' := by
  by_cases ha : -1125899906842624 ≤ a ∧ a ≤ 1125899906842624
  · have hb : b < -1125899906842624 ∨ 1125899906842624 < b := by omega
    have H := Lib.hid h; clear h
    go_enter Tryd.func12, Tryd.ntmps12
    go_wp2_with fail
    refine (isNum_yes _ _ ha.1 ha.2).mono ?_; rintro e w' ⟨rfl, rfl⟩
    go_wp2_with fail
    refine (isNum_no _ _ hb).mono ?_; rintro e w' ⟨rfl, rfl⟩
    go_wp2
    go_ret2
    exact ⟨rfl, rfl⟩
  · go_enter Tryd.func12, Tryd.ntmps12
    go_wp2_with fail
    refine (isNum_no _ _ (by omega)).mono ?_; rintro e w' ⟨rfl, rfl⟩
    go_wp2
    go_ret2
    exact ⟨rfl, rfl⟩
theorem mul_zero (b : Int) (w : World) (hb : -1125899906842624 ≤ b ∧ b ≤ 1125899906842624) :
    Calls Tryd.prog 12 #[.int .i64 0, .int .i64 b] w fun e w' => e = .returned (.tuple #[.int .i64 0, .int .i64 0]) ∧ w = w' := by
  obtain ⟨hb0, hb1⟩ := hb
  go_enter Tryd.func12, Tryd.ntmps12
  go_wp2_with fail
  refine (isNum_yes _ _ (by omega) (by omega)).mono ?_; rintro e w' ⟨rfl, rfl⟩
  go_wp2_with fail
  refine (isNum_yes _ _ hb0 hb1).mono ?_; rintro e w' ⟨rfl, rfl⟩
  go_wp2
  go_ret2
  exact ⟨by simp, rfl⟩
set_option maxHeartbeats 400000 in
theorem mul_ok (a b : Int) (w : World) (ha : -1125899906842624 ≤ a ∧ a ≤ 1125899906842624) (hb : -1125899906842624 ≤ b ∧ b ≤ 1125899906842624) (ha0 : a ≠ 0) (hs : iabs b ≤ 1125899906842624 / iabs a) :
    Calls Tryd.prog 12 #[.int .i64 a, .int .i64 b] w fun e w' => e = .returned (.tuple #[.int .i64 (a * b), .int .i64 0]) ∧ w = w' := by
  obtain ⟨ha1, ha2⟩ := ha
  obtain ⟨hb1, hb2⟩ := hb
  obtain ⟨hp1, hp2⟩ := mul_bound ha0 hs
  have hp : 1 ≤ iabs a := by unfold iabs; split <;> omega
  have hq : iabs a ≤ 1125899906842624 := iabs_le ha1 ha2
  have hz : (a == 0) = false := by simpa using ha0
  have hs' : decide (1125899906842624 / iabs a < iabs b) = false := by simpa using hs
  have HA := Lib.hid ha0; clear ha0
  go_enter Tryd.func12, Tryd.ntmps12
  go_wp2_with fail
  refine (isNum_yes _ _ ha1 ha2).mono ?_; rintro e w' ⟨rfl, rfl⟩
  go_wp2_with fail
  refine (isNum_yes _ _ hb1 hb2).mono ?_; rintro e w' ⟨rfl, rfl⟩
  go_wp2_with fail
  refine (abs_any _ _ hb1 hb2).mono ?_; rintro e w' ⟨rfl, rfl⟩
  go_wp2_with fail
  refine (abs_any _ _ ha1 ha2).mono ?_; rintro e w' ⟨rfl, rfl⟩
  go_wp2
  go_ret2
  exact ⟨rfl, rfl⟩
set_option maxHeartbeats 400000 in
theorem mul_big (a b : Int) (w : World) (ha : -1125899906842624 ≤ a ∧ a ≤ 1125899906842624) (hb : -1125899906842624 ≤ b ∧ b ≤ 1125899906842624) (ha0 : a ≠ 0) (hs : 1125899906842624 / iabs a < iabs b) :
    Calls Tryd.prog 12 #[.int .i64 a, .int .i64 b] w fun e w' => e = .returned (.tuple #[.int .i64 0, .int .i64 9]) ∧ w = w' := by
  obtain ⟨ha1, ha2⟩ := ha
  obtain ⟨hb1, hb2⟩ := hb
  have hp : 1 ≤ iabs a := by unfold iabs; split <;> omega
  have hq : iabs a ≤ 1125899906842624 := iabs_le ha1 ha2
  have hz : (a == 0) = false := by simpa using ha0
  have hs' : decide (1125899906842624 / iabs a < iabs b) = true := by simpa using hs
  have HA := Lib.hid ha0; clear ha0
  go_enter Tryd.func12, Tryd.ntmps12
  go_wp2_with fail
  refine (isNum_yes _ _ ha1 ha2).mono ?_; rintro e w' ⟨rfl, rfl⟩
  go_wp2_with fail
  refine (isNum_yes _ _ hb1 hb2).mono ?_; rintro e w' ⟨rfl, rfl⟩
  go_wp2_with fail
  refine (abs_any _ _ hb1 hb2).mono ?_; rintro e w' ⟨rfl, rfl⟩
  go_wp2_with fail
  refine (abs_any _ _ ha1 ha2).mono ?_; rintro e w' ⟨rfl, rfl⟩
  go_wp2
  go_ret2
  exact ⟨rfl, rfl⟩
theorem tmod_sign (a b : Int) : (0 ≤ a → 0 ≤ a.tmod b) ∧ (a ≤ 0 → a.tmod b ≤ 0) := by
  constructor
  · intro h; exact Int.tmod_nonneg b h
  · intro h
    have := Int.tmod_nonneg b (a := -a) (by omega)
    rw [Int.neg_tmod] at this; omega
theorem tdiv_bd (a b M : Int) (h0 : -M ≤ a) (h1 : a ≤ M) : -M ≤ a.tdiv b ∧ a.tdiv b ≤ M := by
  have h := Int.natAbs_tdiv a b
  have h2 : a.natAbs.div b.natAbs ≤ a.natAbs := Nat.div_le_self _ _
  omega
theorem tmod_bd (a b M : Int) (h0 : -M ≤ a) (h1 : a ≤ M) : -M ≤ a.tmod b ∧ a.tmod b ≤ M := by
  have h := Int.natAbs_tmod a b
  have h2 : a.natAbs % b.natAbs ≤ a.natAbs := Nat.mod_le _ _
  omega
theorem fdiv_same {a b : Int} (h : a.tmod b = 0 ∨ (a.tmod b < 0 ∧ b < 0) ∨ (0 < a.tmod b ∧ 0 < b)) : a.fdiv b = a.tdiv b := by
  rw [Int.fdiv_eq_tdiv]
  have hs := tmod_sign a b
  by_cases hd : b ∣ a
  · rw [if_pos hd]; omega
  · have hn : a.tmod b ≠ 0 := fun hz => hd (Int.dvd_of_tmod_eq_zero hz)
    rw [if_neg hd]
    by_cases h0 : 0 ≤ a
    · rw [if_pos h0, if_pos (by have := hs.1 h0; omega)]; omega
    · have h2 := hs.2 (by omega)
      have hb' : b < 0 := by omega
      rw [if_neg h0, if_neg (by omega), Int.sign_eq_neg_one_of_neg hb']; omega
theorem fdiv_down {a b : Int} (h : (a.tmod b < 0 ∧ 0 < b) ∨ (0 < a.tmod b ∧ b < 0)) : a.fdiv b = a.tdiv b - 1 := by
  rw [Int.fdiv_eq_tdiv]
  have hs := tmod_sign a b
  have hd : ¬ b ∣ a := fun hd => by have := Int.tmod_eq_zero_of_dvd hd; omega
  rw [if_neg hd]
  by_cases h0 : 0 ≤ a
  · have := hs.1 h0
    rw [if_pos h0, if_neg (by omega)]
  · have := hs.2 (by omega)
    rw [if_neg h0, if_pos (by omega), Int.sign_eq_one_of_pos (by omega)]
theorem floor_range (a b : Int) (w : World) (h : ((a < -1125899906842624 ∨ 1125899906842624 < a) ∨ (b < -1125899906842624 ∨ 1125899906842624 < b)) ∨ b = 0) :
    Calls Tryd.prog 17 #[.int .i64 a, .int .i64 b] w fun e w' => e = .returned (.tuple #[.int .i64 0, .int .i64 2]) ∧ w = w' := by
  by_cases ha : -1125899906842624 ≤ a ∧ a ≤ 1125899906842624
  · by_cases hb : -1125899906842624 ≤ b ∧ b ≤ 1125899906842624
    · obtain rfl : b = 0 := by omega
      clear h
      go_enter Tryd.func17, Tryd.ntmps17
      go_wp2_with fail
      refine (isNum_yes _ _ ha.1 ha.2).mono ?_; rintro e w' ⟨rfl, rfl⟩
      go_wp2_with fail
      refine (isNum_yes _ _ hb.1 hb.2).mono ?_; rintro e w' ⟨rfl, rfl⟩
      go_wp2
      go_ret2
      exact ⟨rfl, rfl⟩
    · have hb' : b < -1125899906842624 ∨ 1125899906842624 < b := by omega
      have H := Lib.hid h; clear h
      go_enter Tryd.func17, Tryd.ntmps17
      go_wp2_with fail
      refine (isNum_yes _ _ ha.1 ha.2).mono ?_; rintro e w' ⟨rfl, rfl⟩
      go_wp2_with fail
      refine (isNum_no _ _ hb').mono ?_; rintro e w' ⟨rfl, rfl⟩
      go_wp2
      go_ret2
      exact ⟨rfl, rfl⟩
  · have H := Lib.hid h; clear h
    go_enter Tryd.func17, Tryd.ntmps17
    go_wp2_with fail
    refine (isNum_no _ _ (by omega)).mono ?_; rintro e w' ⟨rfl, rfl⟩
    go_wp2
    go_ret2
    exact ⟨rfl, rfl⟩
set_option maxHeartbeats 400000 in
theorem floor_ok (a b : Int) (w : World) (ha : -1125899906842624 ≤ a ∧ a ≤ 1125899906842624) (hb : -1125899906842624 ≤ b ∧ b ≤ 1125899906842624) (hb0 : b ≠ 0) :
    Calls Tryd.prog 17 #[.int .i64 a, .int .i64 b] w fun e w' => e = .returned (.tuple #[.int .i64 (a.fdiv b), .int .i64 0]) ∧ ∃ n, w' = w.drewN n := by
  obtain ⟨ha1, ha2⟩ := ha
  obtain ⟨hb1, hb2⟩ := hb
  obtain ⟨hd1, hd2⟩ := tdiv_bd a b _ ha1 ha2
  obtain ⟨hm1, hm2⟩ := tmod_bd a b _ ha1 ha2
  have hz : (b == 0) = false := by simpa using hb0
  by_cases h : a.tmod b = 0 ∨ (a.tmod b < 0 ∧ b < 0) ∨ (0 < a.tmod b ∧ 0 < b)
  · rw [fdiv_same h]
    rcases h with h | ⟨h, h'⟩ | ⟨h, h'⟩
    · have h1 : (a.tmod b == 0) = true := by simpa using h
      go_enter Tryd.func17, Tryd.ntmps17
      go_wp2_with fail
      refine (isNum_yes _ _ ha1 ha2).mono ?_; rintro e w' ⟨rfl, rfl⟩
      go_wp2_with fail
      refine (isNum_yes _ _ hb1 hb2).mono ?_; rintro e w' ⟨rfl, rfl⟩
      go_wp2
      go_quiet (fail)
      go_wp2
      go_ret2
      exact ⟨rfl, _, rfl⟩
    · have h1 : (a.tmod b == 0) = false := by simp; omega
      have h2 : decide (a.tmod b < 0) = true := by simpa using h
      have h3 : decide (b < 0) = true := by simpa using h'
      go_enter Tryd.func17, Tryd.ntmps17
      go_wp2_with fail
      refine (isNum_yes _ _ ha1 ha2).mono ?_; rintro e w' ⟨rfl, rfl⟩
      go_wp2_with fail
      refine (isNum_yes _ _ hb1 hb2).mono ?_; rintro e w' ⟨rfl, rfl⟩
      go_wp2
      go_quiet (fail)
      go_wp2
      go_ret2
      exact ⟨rfl, _, rfl⟩
    · have h1 : (a.tmod b == 0) = false := by simp; omega
      have h2 : decide (a.tmod b < 0) = false := by simp; omega
      have h3 : decide (b < 0) = false := by simp; omega
      go_enter Tryd.func17, Tryd.ntmps17
      go_wp2_with fail
      refine (isNum_yes _ _ ha1 ha2).mono ?_; rintro e w' ⟨rfl, rfl⟩
      go_wp2_with fail
      refine (isNum_yes _ _ hb1 hb2).mono ?_; rintro e w' ⟨rfl, rfl⟩
      go_wp2
      go_quiet (fail)
      go_wp2
      go_ret2
      exact ⟨rfl, _, rfl⟩
  · have h' : (a.tmod b < 0 ∧ 0 < b) ∨ (0 < a.tmod b ∧ b < 0) := by omega
    rw [fdiv_down h']
    have H := Lib.hid h; clear h
    rcases h' with ⟨h, h'⟩ | ⟨h, h'⟩
    · have h1 : (a.tmod b == 0) = false := by simp; omega
      have h2 : decide (a.tmod b < 0) = true := by simpa using h
      have h3 : decide (b < 0) = false := by simp; omega
      go_enter Tryd.func17, Tryd.ntmps17
      go_wp2_with fail
      refine (isNum_yes _ _ ha1 ha2).mono ?_; rintro e w' ⟨rfl, rfl⟩
      go_wp2_with fail
      refine (isNum_yes _ _ hb1 hb2).mono ?_; rintro e w' ⟨rfl, rfl⟩
      go_wp2
      go_quiet (fail)
      go_wp2
      go_ret2
      exact ⟨rfl, _, rfl⟩
    · have h1 : (a.tmod b == 0) = false := by simp; omega
      have h2 : decide (a.tmod b < 0) = false := by simp; omega
      have h3 : decide (b < 0) = true := by simpa using h'
      go_enter Tryd.func17, Tryd.ntmps17
      go_wp2_with fail
      refine (isNum_yes _ _ ha1 ha2).mono ?_; rintro e w' ⟨rfl, rfl⟩
      go_wp2_with fail
      refine (isNum_yes _ _ hb1 hb2).mono ?_; rintro e w' ⟨rfl, rfl⟩
      go_wp2
      go_quiet (fail)
      go_wp2
      go_ret2
      exact ⟨rfl, _, rfl⟩
theorem gcd_range (a b : Int) (w : World) (h : (a < -1125899906842624 ∨ 1125899906842624 < a) ∨ (b < -1125899906842624 ∨ 1125899906842624 < b)) :
    Calls Tryd.prog 18 #[.int .i64 a, .int .i64 b] w fun e w' => e = .returned (.tuple #[.int .i64 0, .int .i64 2]) ∧ w = w' := by
  by_cases ha : -1125899906842624 ≤ a ∧ a ≤ 1125899906842624
  · have hb : b < -1125899906842624 ∨ 1125899906842624 < b := by omega
    have H := Lib.hid h; clear h
    go_enter Tryd.func18, Tryd.ntmps18
    go_wp2_with fail
    refine (isNum_yes _ _ ha.1 ha.2).mono ?_; rintro e w' ⟨rfl, rfl⟩
    go_wp2_with fail
    refine (isNum_no _ _ hb).mono ?_; rintro e w' ⟨rfl, rfl⟩
    go_wp2
    go_ret2
    exact ⟨rfl, rfl⟩
  · go_enter Tryd.func18, Tryd.ntmps18
    go_wp2_with fail
    refine (isNum_no _ _ (by omega)).mono ?_; rintro e w' ⟨rfl, rfl⟩
    go_wp2
    go_ret2
    exact ⟨rfl, rfl⟩
theorem gcd_iabs (a b : Int) : Nat.gcd (iabs a).toNat (iabs b).toNat = Int.gcd a b := by
  have h : ∀ z : Int, (iabs z).toNat = z.natAbs := fun z => by unfold iabs; split <;> omega
  rw [h, h]; rfl
theorem gcd_step (p q : Nat) (g : Nat) (h : Nat.gcd p q = g) : Nat.gcd q (p % q) = g := by
  rw [Nat.gcd_comm q, ← Nat.gcd_rec, Nat.gcd_comm]; exact h
theorem ret2_int {k l : IntKind} {a b c d : Int} (h : a = b) (h2 : c = d) : Ending.returned (.tuple #[.int k a, .int l c]) = Ending.returned (.tuple #[.int k b, .int l d]) := by rw [h, h2]
theorem drewN_trans (w : World) (a b : Nat) : (w.drewN a).drewN b = w.drewN (a + b) := by
  simp [World.drewN, Nat.add_assoc]
set_option maxHeartbeats 400000 in
theorem gcd_ok (a b : Int) (w : World) (ha : -1125899906842624 ≤ a ∧ a ≤ 1125899906842624) (hb : -1125899906842624 ≤ b ∧ b ≤ 1125899906842624) :
    Calls Tryd.prog 18 #[.int .i64 a, .int .i64 b] w fun e w' => e = .returned (.tuple #[.int .i64 (Int.gcd a b : Int), .int .i64 0]) ∧ ∃ n, w' = w.drewN n := by
  obtain ⟨ha1, ha2⟩ := ha
  obtain ⟨hb1, hb2⟩ := hb
  have h1 : 0 ≤ iabs a := iabs_nonneg a
  have h2 : 0 ≤ iabs b := iabs_nonneg b
  have h3 : iabs a ≤ 1125899906842624 := iabs_le ha1 ha2
  have h4 : iabs b ≤ 1125899906842624 := iabs_le hb1 hb2
  go_enter Tryd.func18, Tryd.ntmps18
  go_wp2_with fail
  refine (isNum_yes _ _ ha1 ha2).mono ?_; rintro e w' ⟨rfl, rfl⟩
  go_wp2_with fail
  refine (isNum_yes _ _ hb1 hb2).mono ?_; rintro e w' ⟨rfl, rfl⟩
  go_wp2_with fail
  refine (abs_any _ _ ha1 ha2).mono ?_; rintro e w' ⟨rfl, rfl⟩
  go_wp2_with fail
  refine (abs_any _ _ hb1 hb2).mono ?_; rintro e w' ⟨rfl, rfl⟩
  go_wp2
  go_loopw [0, 1] (fun x y wr => ∃ p q : Nat, p ≤ 1125899906842624 ∧ q ≤ 1125899906842624 ∧ x = .int .i64 p ∧ y = .int .i64 q ∧ Hid (Nat.gcd p q = Int.gcd a b) ∧ ∃ n, wr = w.drewN n) (fun _ y _ => (intOf y).toNat)
  case atStart =>
    exact ⟨(iabs a).toNat, (iabs b).toNat, by omega, by omega, by rw [Int.toNat_of_nonneg h1], by rw [Int.toNat_of_nonneg h2], gcd_iabs a b, 0, rfl⟩
  case round =>
    obtain ⟨p, q, hp, hq, rfl, rfl, hg, n, rfl⟩ := hrel
    by_cases hz : q = 0
    · subst hz
      have hpg : p = Int.gcd a b := by have := hg.out; rw [Nat.gcd_zero_right] at this; exact this
      have HP := Lib.hid hpg; clear hpg
      go_wp2
      go_ret2
      exact ⟨ret2_int (congrArg Int.ofNat HP.out) rfl, _, rfl⟩
    · have hz' : ((q : Int) == 0) = false := by simp; omega
      have hq0 : (q : Int) ≠ 0 := by omega
      have hm := Nat.mod_lt p (show 0 < q by omega)
      go_wp2
      go_quiet (fail)
      go_roundw
      case rel =>
        refine ⟨_, _, _, _, _, _, _, _, ?_, rfl⟩
        exact ⟨q, p % q, hq, by omega, rfl, by go_num, gcd_step p q _ hg.out, _, drewN_trans _ _ _⟩
      case measure => simp [intOf]; omega
theorem choose_range (n k : Int) (w : World) (h : n < 0 ∨ 1000 < n ∨ k < 0 ∨ n < k) :
    Calls Tryd.prog 19 #[.int .i64 n, .int .i64 k] w fun e w' => e = .returned (.tuple #[.int .i64 0, .int .i64 2]) ∧ w = w' := by
  by_cases h1 : n < 0
  · go_enter Tryd.func19, Tryd.ntmps19
    go_wp2
    go_ret2
    exact ⟨rfl, rfl⟩
  · by_cases h2 : 1000 < n
    · have d1 : decide (n < 0) = false := by simpa using h1
      have d2 : decide (1000 < n) = true := by simpa using h2
      go_enter Tryd.func19, Tryd.ntmps19
      go_wp2
      go_ret2
      exact ⟨rfl, rfl⟩
    · by_cases h3 : k < 0
      · have d1 : decide (n < 0) = false := by simpa using h1
        have d2 : decide (1000 < n) = false := by simpa using h2
        have d3 : decide (k < 0) = true := by simpa using h3
        go_enter Tryd.func19, Tryd.ntmps19
        go_wp2
        go_ret2
        exact ⟨rfl, rfl⟩
      · have d1 : decide (n < 0) = false := by simpa using h1
        have d2 : decide (1000 < n) = false := by simpa using h2
        have d3 : decide (k < 0) = false := by simpa using h3
        have d4 : decide (n < k) = true := by simp; omega
        go_enter Tryd.func19, Tryd.ntmps19
        go_wp2
        go_ret2
        exact ⟨rfl, rfl⟩
theorem choose_step (m j : Nat) (hn : m + j < 1000) (hc : ch (m + j) j ≤ 1125899906842624) :
    wrap64 ((wrap64 ((ch (m + j) j : Nat) * ((m : Int) + ((j : Int) + 1)))).tdiv ((j : Int) + 1)) = (ch (m + (j + 1)) (j + 1) : Nat) := by
  have ha := ch_absorb (m + j) j
  have e1 : ((ch (m + j) j : Nat) : Int) * ((m : Int) + ((j : Int) + 1)) = (((m + j + 1) * ch (m + j) j : Nat) : Int) := by
    rw [Nat.mul_comm]; push_cast; rw [Int.add_assoc]
  have hb : (m + j + 1) * ch (m + j) j ≤ 1000 * 1125899906842624 := Nat.mul_le_mul (by omega) hc
  have w1 : wrap64 (((m + j + 1) * ch (m + j) j : Nat) : Int) = (((m + j + 1) * ch (m + j) j : Nat) : Int) := IntWalk.wrap64_in _ (by constructor <;> omega)
  have e2 : ((((j + 1) * ch (m + j + 1) (j + 1) : Nat) : Int)).tdiv ((j : Int) + 1) = (ch (m + j + 1) (j + 1) : Nat) := by
    rw [show ((j : Int) + 1) = ((j + 1 : Nat) : Int) by omega, Int.tdiv_eq_ediv_of_nonneg (by omega), ← Int.natCast_ediv, Nat.mul_div_cancel_left _ (by omega)]
  have hle : ch (m + j + 1) (j + 1) ≤ (j + 1) * ch (m + j + 1) (j + 1) := Nat.le_mul_of_pos_left _ (by omega)
  rw [e1, w1, ← ha, e2]
  exact IntWalk.wrap64_in _ (by constructor <;> omega)
theorem ch_diag_le (m j K : Nat) (h : j ≤ K) (hc : ch (m + K) K ≤ 1125899906842624) : ch (m + j) j ≤ 1125899906842624 := by
  obtain ⟨d, rfl⟩ : ∃ d, K = j + d := ⟨K - j, by omega⟩
  exact Nat.le_trans (ch_diag_mono m j d) hc
set_option maxHeartbeats 400000 in
theorem choose_ok (m K : Nat) (w : World) (hn : m + K ≤ 1000) (hc : ch (m + K) K ≤ 1125899906842624) :
    Calls Tryd.prog 19 #[.int .i64 ((m : Int) + K), .int .i64 K] w fun e w' => e = .returned (.tuple #[.int .i64 (ch (m + K) K), .int .i64 0]) ∧ w = w' := by
  have HC := Lib.hid hc; clear hc
  go_enter Tryd.func19, Tryd.ntmps19
  go_wp2
  go_loop [6, 7] (fun r i => ∃ j : Nat, j ≤ K ∧ r = .int .i64 (ch (m + j) j : Nat) ∧ i = .int .i64 ((j : Int) + 1)) (fun _ i => K + 1 - (intOf i).toNat)
  case atStart => exact ⟨0, by omega, by rw [ch_zero]; rfl, rfl⟩
  case round =>
    obtain ⟨j, hj, rfl, rfl⟩ := hrel
    by_cases hlt : j < K
    · have HV := Lib.hid (choose_step m j (by omega) (ch_diag_le m j K hj HC.out))
      have HB := Lib.hid (ch_diag_le m (j + 1) K (by omega) HC.out)
      go_wp2_with fail
      rw [HV.out]
      refine (isNum_yes _ _ (by omega) (by have := HB.out; omega)).mono ?_; rintro e w' ⟨rfl, rfl⟩
      go_wp2
      go_round
      case rel => exact ⟨j + 1, by omega, rfl, by go_num⟩
      case measure => simp [intOf]; omega
    · obtain rfl : j = K := by omega
      go_wp2
      go_ret2
      exact ⟨rfl, rfl⟩
/- the product passes the limit: the first place at which it does -/
theorem choose_first (m K : Nat) (hc : 1125899906842624 < ch (m + K) K) : ∃ J, J < K ∧ ch (m + J) J ≤ 1125899906842624 ∧ 1125899906842624 < ch (m + (J + 1)) (J + 1) := by
  induction K with
  | zero => rw [ch_zero] at hc; omega
  | succ K ih =>
    by_cases h : 1125899906842624 < ch (m + K) K
    · obtain ⟨J, h1, h2, h3⟩ := ih h
      exact ⟨J, by omega, h2, h3⟩
    · exact ⟨K, by omega, by omega, hc⟩
set_option maxHeartbeats 400000 in
theorem choose_big (m K : Nat) (w : World) (hn : m + K ≤ 1000) (hc : 1125899906842624 < ch (m + K) K) :
    Calls Tryd.prog 19 #[.int .i64 ((m : Int) + K), .int .i64 K] w fun e w' => e = .returned (.tuple #[.int .i64 0, .int .i64 9]) ∧ w = w' := by
  obtain ⟨J, hJ, HC, HX⟩ := choose_first m K hc
  have HC := Lib.hid HC
  have HX := Lib.hid HX
  clear hc
  rename_i HC0 HX0
  clear HC0 HX0
  go_enter Tryd.func19, Tryd.ntmps19
  go_wp2
  go_loop [6, 7] (fun r i => ∃ j : Nat, j ≤ J ∧ r = .int .i64 (ch (m + j) j : Nat) ∧ i = .int .i64 ((j : Int) + 1)) (fun _ i => K + 1 - (intOf i).toNat)
  case atStart => exact ⟨0, by omega, by rw [ch_zero]; rfl, rfl⟩
  case round =>
    obtain ⟨j, hj, rfl, rfl⟩ := hrel
    have HV := Lib.hid (choose_step m j (by omega) (ch_diag_le m j J hj HC.out))
    have hlt : j < K := by omega
    by_cases he : j = J
    · subst he
      go_wp2_with fail
      rw [HV.out]
      refine (isNum_no _ _ (by have := HX.out; omega)).mono ?_; rintro e w' ⟨rfl, rfl⟩
      go_wp2
      go_ret2
      exact ⟨rfl, rfl⟩
    · have HB := Lib.hid (ch_diag_le m (j + 1) J (by omega) HC.out)
      go_wp2_with fail
      rw [HV.out]
      refine (isNum_yes _ _ (by omega) (by have := HB.out; omega)).mono ?_; rintro e w' ⟨rfl, rfl⟩
      go_wp2
      go_round
      case rel => exact ⟨j + 1, by omega, rfl, by go_num⟩
      case measure => simp [intOf]; omega
end Go.Proofs.YtcgmbgamhlfpcaaDoor
