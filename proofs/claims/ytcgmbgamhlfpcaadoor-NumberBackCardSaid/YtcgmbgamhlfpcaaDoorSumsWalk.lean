/- NumberSums: Sum's contract, and the law's own text, walked: it returns true for every two integers and every list. -/
import Derived.Test.YtcgmbgamhlfpcaaDoorTxt
namespace Go.Proofs.YtcgmbgamhlfpcaaDoor
open Go.RowKit
/- the sum of the first j elements -/
def psum (z : Nat → Int) : Nat → Int
  | 0 => 0
  | j + 1 => psum z j + z j
theorem psum_bd (z : Nat → Int) (n j : Nat) (h : ∀ i, i < n → -1125899906842624 ≤ z i ∧ z i ≤ 1125899906842624) (hj : j ≤ n) :
    -(1125899906842624 * (j : Int)) ≤ psum z j ∧ psum z j ≤ 1125899906842624 * (j : Int) := by
  induction j with
  | zero => exact ⟨by show _ ≤ (0 : Int); omega, by show (0 : Int) ≤ _; omega⟩
  | succ j ih =>
    have h1 := ih (by omega)
    have h2 := h j (by omega)
    have e : psum z (j + 1) = psum z j + z j := rfl
    rw [e]
    omega
/- all are numbers, or there is a first one that is none -/
theorem first_bad (z : Nat → Int) (n : Nat) : (∀ i, i < n → -1125899906842624 ≤ z i ∧ z i ≤ 1125899906842624) ∨
    ∃ J, J < n ∧ (z J < -1125899906842624 ∨ 1125899906842624 < z J) ∧ ∀ i, i < J → -1125899906842624 ≤ z i ∧ z i ≤ 1125899906842624 := by
  induction n with
  | zero => left; intro i hi; omega
  | succ n ih =>
    rcases ih with h | ⟨J, h1, h2, h3⟩
    · by_cases hn : -1125899906842624 ≤ z n ∧ z n ≤ 1125899906842624
      · left; intro i hi
        by_cases e : i = n
        · rw [e]; exact hn
        · exact h i (by omega)
      · right; exact ⟨n, by omega, by omega, h⟩
    · right; exact ⟨J, by omega, h2, h3⟩
def Cells (w : World) (b off len : Nat) (z : Nat → Int) : Prop := ∀ i, i < len → w.cell? ⟨b, off + i, none⟩ = some (.int .i64 (z i))
theorem sum_full (a : Option Addr) (len cap : Nat) (w : World) (h : 1000 < len) (hm : len ≤ 9223372036854775807) :
    Calls Tryd.prog 16 #[.slice a len cap] w fun e w' => e = .returned (.tuple #[.int .i64 0, .int .i64 5]) ∧ w = w' := by
  go_enter Tryd.func16, Tryd.ntmps16
  go_wp2
  go_ret2
  exact ⟨rfl, rfl⟩
theorem sum_nil (a : Option Addr) (cap : Nat) (w : World) :
    Calls Tryd.prog 16 #[.slice a 0 cap] w fun e w' => e = .returned (.tuple #[.int .i64 0, .int .i64 0]) ∧ w = w' := by
  go_enter Tryd.func16, Tryd.ntmps16
  go_wp2
  go_loop [4, 12] (fun s i => s = .int .i64 0 ∧ i = .int .i64 0) (fun _ _ => 0)
  case atStart => exact ⟨rfl, rfl⟩
  case round =>
    obtain ⟨rfl, rfl⟩ := hrel
    go_wp2_with fail
    refine (isNum_yes _ _ (by omega) (by omega)).mono ?_; rintro e w' ⟨rfl, rfl⟩
    go_wp2
    go_ret2
    exact ⟨rfl, rfl⟩
set_option maxHeartbeats 400000 in
theorem sum_ok (b off len cap : Nat) (z : Nat → Int) (w : World) (h : len ≤ 1000) (hc : Cells w b off len z) (hz : ∀ i, i < len → -1125899906842624 ≤ z i ∧ z i ≤ 1125899906842624)
    (h0 : -1125899906842624 ≤ psum z len) (h1 : psum z len ≤ 1125899906842624) :
    Calls Tryd.prog 16 #[.slice (some ⟨b, off, none⟩) len cap] w fun e w' => e = .returned (.tuple #[.int .i64 (psum z len), .int .i64 0]) ∧ w = w' := by
  have HC := Lib.hid hc; clear hc
  have HZ := Lib.hid hz; clear hz
  go_enter Tryd.func16, Tryd.ntmps16
  go_wp2
  go_loop [4, 12] (fun s i => ∃ j : Nat, j ≤ len ∧ s = .int .i64 (psum z j) ∧ i = .int .i64 j) (fun _ i => len - (intOf i).toNat)
  case atStart => exact ⟨0, by omega, rfl, rfl⟩
  case round =>
    obtain ⟨j, hj, rfl, rfl⟩ := hrel
    by_cases hlt : j < len
    · have hcell := HC.out j hlt
      have hz := HZ.out j hlt
      obtain ⟨hz1, hz2⟩ := hz
      obtain ⟨hp1, hp2⟩ := psum_bd z len j HZ.out hj
      go_wp2_with fail
      refine (isNum_yes _ _ hz1 hz2).mono ?_; rintro e w' ⟨rfl, rfl⟩
      go_wp2
      go_round
      case rel => exact ⟨j + 1, by omega, rfl, by go_num⟩
      case measure => simp [intOf]; omega
    · obtain rfl : j = len := by omega
      go_wp2_with fail
      refine (isNum_yes _ _ h0 h1).mono ?_; rintro e w' ⟨rfl, rfl⟩
      go_wp2
      go_ret2
      exact ⟨rfl, rfl⟩
set_option maxHeartbeats 400000 in
theorem sum_big (b off len cap : Nat) (z : Nat → Int) (w : World) (h : len ≤ 1000) (hc : Cells w b off len z) (hz : ∀ i, i < len → -1125899906842624 ≤ z i ∧ z i ≤ 1125899906842624)
    (h0 : psum z len < -1125899906842624 ∨ 1125899906842624 < psum z len) :
    Calls Tryd.prog 16 #[.slice (some ⟨b, off, none⟩) len cap] w fun e w' => e = .returned (.tuple #[.int .i64 0, .int .i64 9]) ∧ w = w' := by
  have HC := Lib.hid hc; clear hc
  have HZ := Lib.hid hz; clear hz
  have H0 := Lib.hid h0; clear h0
  go_enter Tryd.func16, Tryd.ntmps16
  go_wp2
  go_loop [4, 12] (fun s i => ∃ j : Nat, j ≤ len ∧ s = .int .i64 (psum z j) ∧ i = .int .i64 j) (fun _ i => len - (intOf i).toNat)
  case atStart => exact ⟨0, by omega, rfl, rfl⟩
  case round =>
    obtain ⟨j, hj, rfl, rfl⟩ := hrel
    by_cases hlt : j < len
    · have hcell := HC.out j hlt
      have hz := HZ.out j hlt
      obtain ⟨hz1, hz2⟩ := hz
      obtain ⟨hp1, hp2⟩ := psum_bd z len j HZ.out hj
      go_wp2_with fail
      refine (isNum_yes _ _ hz1 hz2).mono ?_; rintro e w' ⟨rfl, rfl⟩
      go_wp2
      go_round
      case rel => exact ⟨j + 1, by omega, rfl, by go_num⟩
      case measure => simp [intOf]; omega
    · obtain rfl : j = len := by omega
      go_wp2_with fail
      refine (isNum_no _ _ H0.out).mono ?_; rintro e w' ⟨rfl, rfl⟩
      go_wp2
      go_ret2
      exact ⟨rfl, rfl⟩
set_option maxHeartbeats 400000 in
theorem sum_bad (b off len cap J : Nat) (z : Nat → Int) (w : World) (h : len ≤ 1000) (hc : Cells w b off len z) (hJ : J < len) (hb : z J < -1125899906842624 ∨ 1125899906842624 < z J) (hz : ∀ i, i < J → -1125899906842624 ≤ z i ∧ z i ≤ 1125899906842624) :
    Calls Tryd.prog 16 #[.slice (some ⟨b, off, none⟩) len cap] w fun e w' => e = .returned (.tuple #[.int .i64 0, .int .i64 2]) ∧ w = w' := by
  have HC := Lib.hid hc; clear hc
  have HZ := Lib.hid hz; clear hz
  have HB := Lib.hid hb; clear hb
  go_enter Tryd.func16, Tryd.ntmps16
  go_wp2
  go_loop [4, 12] (fun s i => ∃ j : Nat, j ≤ J ∧ s = .int .i64 (psum z j) ∧ i = .int .i64 j) (fun _ i => len - (intOf i).toNat)
  case atStart => exact ⟨0, by omega, rfl, rfl⟩
  case round =>
    obtain ⟨j, hj, rfl, rfl⟩ := hrel
    have hlt : j < len := by omega
    have hcell := HC.out j hlt
    by_cases he : j < J
    · have hz := HZ.out j he
      obtain ⟨hz1, hz2⟩ := hz
      obtain ⟨hp1, hp2⟩ := psum_bd z J j HZ.out hj
      go_wp2_with fail
      refine (isNum_yes _ _ hz1 hz2).mono ?_; rintro e w' ⟨rfl, rfl⟩
      go_wp2
      go_round
      case rel => exact ⟨j + 1, by omega, rfl, by go_num⟩
      case measure => simp [intOf]; omega
    · obtain rfl : j = J := by omega
      go_wp2_with fail
      refine (isNum_no _ _ HB.out).mono ?_; rintro e w' ⟨rfl, rfl⟩
      go_wp2
      go_ret2
      exact ⟨rfl, rfl⟩
theorem refIs_yes (n : Int) (w : World) (h0 : -1125899906842624 ≤ n) (h1 : n ≤ 1125899906842624) :
    Calls Tryd.prog 13 #[.int .i64 n] w fun e w' => e = .returned (.bool true) ∧ w = w' := by
  go_enter Tryd.func13, Tryd.ntmps13
  go_wp2
  go_ret
  exact ⟨rfl, rfl⟩
theorem refIs_no (n : Int) (w : World) (h : n < -1125899906842624 ∨ 1125899906842624 < n) :
    Calls Tryd.prog 13 #[.int .i64 n] w fun e w' => e = .returned (.bool false) ∧ w = w' := by
  rcases h with h | h
  · go_enter Tryd.func13, Tryd.ntmps13
    go_wp2
    go_ret
    exact ⟨rfl, rfl⟩
  · have hd : decide (n ≤ 1125899906842624) = false := by simpa using h
    go_enter Tryd.func13, Tryd.ntmps13
    go_wp2
    go_ret
    exact ⟨rfl, rfl⟩
theorem refAbs_any (n : Int) (w : World) (h0 : -1125899906842624 ≤ n) (h1 : n ≤ 1125899906842624) :
    Calls Tryd.prog 32 #[.int .i64 n] w fun e w' => e = .returned (.int .i64 (iabs n)) ∧ w = w' := by
  by_cases h : n < 0
  · rw [iabs_neg h]
    go_enter Tryd.func32, Tryd.ntmps32
    go_wp2
    go_ret
    exact ⟨rfl, rfl⟩
  · rw [iabs_pos (by omega)]
    go_enter Tryd.func32, Tryd.ntmps32
    go_wp2
    go_ret
    exact ⟨rfl, rfl⟩
theorem refAdd_ok (a b : Int) (w : World) (ha : -1125899906842624 ≤ a ∧ a ≤ 1125899906842624) (hb : -1125899906842624 ≤ b ∧ b ≤ 1125899906842624) (h : -1125899906842624 ≤ a + b ∧ a + b ≤ 1125899906842624) :
    Calls Tryd.prog 14 #[.int .i64 a, .int .i64 b] w fun e w' => e = .returned (.tuple #[.int .i64 (a + b), .bool true]) ∧ w = w' := by
  obtain ⟨ha0, ha1⟩ := ha
  obtain ⟨hb0, hb1⟩ := hb
  go_enter Tryd.func14, Tryd.ntmps14
  go_wp2_with fail
  refine (refIs_yes _ _ h.1 h.2).mono ?_; rintro e w' ⟨rfl, rfl⟩
  go_wp2
  go_ret2
  exact ⟨rfl, rfl⟩
theorem refAdd_big (a b : Int) (w : World) (ha : -1125899906842624 ≤ a ∧ a ≤ 1125899906842624) (hb : -1125899906842624 ≤ b ∧ b ≤ 1125899906842624) (h : a + b < -1125899906842624 ∨ 1125899906842624 < a + b) :
    Calls Tryd.prog 14 #[.int .i64 a, .int .i64 b] w fun e w' => e = .returned (.tuple #[.int .i64 0, .bool false]) ∧ w = w' := by
  obtain ⟨ha0, ha1⟩ := ha
  obtain ⟨hb0, hb1⟩ := hb
  go_enter Tryd.func14, Tryd.ntmps14
  go_wp2_with fail
  refine (refIs_no _ _ h).mono ?_; rintro e w' ⟨rfl, rfl⟩
  go_wp2
  go_ret2
  exact ⟨rfl, rfl⟩
def Fits (a b : Int) : Prop := a = 0 ∨ iabs b ≤ 1125899906842624 / iabs a
theorem mul_fit (a b : Int) (w : World) (ha : -1125899906842624 ≤ a ∧ a ≤ 1125899906842624) (hb : -1125899906842624 ≤ b ∧ b ≤ 1125899906842624) (h : Fits a b) :
    Calls Tryd.prog 12 #[.int .i64 a, .int .i64 b] w fun e w' => e = .returned (.tuple #[.int .i64 (a * b), .int .i64 0]) ∧ w = w' := by
  by_cases h0 : a = 0
  · subst h0; rw [Int.zero_mul]; exact mul_zero b w hb
  · exact mul_ok a b w ha hb h0 (h.resolve_left h0)
theorem mul_over (a b : Int) (w : World) (ha : -1125899906842624 ≤ a ∧ a ≤ 1125899906842624) (hb : -1125899906842624 ≤ b ∧ b ≤ 1125899906842624) (h : ¬ Fits a b) :
    Calls Tryd.prog 12 #[.int .i64 a, .int .i64 b] w fun e w' => e = .returned (.tuple #[.int .i64 0, .int .i64 9]) ∧ w = w' :=
  mul_big a b w ha hb (fun h0 => h (Or.inl h0)) (by have : ¬ iabs b ≤ 1125899906842624 / iabs a := fun h1 => h (Or.inr h1); omega)
set_option maxHeartbeats 400000 in
theorem refMul_fit (a b : Int) (w : World) (ha : -1125899906842624 ≤ a ∧ a ≤ 1125899906842624) (hb : -1125899906842624 ≤ b ∧ b ≤ 1125899906842624) (h : Fits a b) :
    Calls Tryd.prog 15 #[.int .i64 a, .int .i64 b] w fun e w' => e = .returned (.tuple #[.int .i64 (a * b), .bool true]) ∧ w = w' := by
  obtain ⟨ha1, ha2⟩ := ha
  obtain ⟨hb1, hb2⟩ := hb
  by_cases h0 : a = 0
  · subst h0; rw [Int.zero_mul]
    clear h
    go_enter Tryd.func15, Tryd.ntmps15
    go_wp2
    go_ret2
    exact ⟨by simp, rfl⟩
  · have hs := h.resolve_left h0
    obtain ⟨hp1, hp2⟩ := mul_bound h0 hs
    have hp : 1 ≤ iabs a := by unfold iabs; split <;> omega
    have hq : iabs a ≤ 1125899906842624 := iabs_le ha1 ha2
    have hz : (a == 0) = false := by simpa using h0
    have hs' : decide (1125899906842624 / iabs a < iabs b) = false := by simpa using hs
    have HA := Lib.hid h0; clear h0
    clear h
    go_enter Tryd.func15, Tryd.ntmps15
    go_wp2_with fail
    refine (refAbs_any _ _ hb1 hb2).mono ?_; rintro e w' ⟨rfl, rfl⟩
    go_wp2_with fail
    refine (refAbs_any _ _ ha1 ha2).mono ?_; rintro e w' ⟨rfl, rfl⟩
    go_wp2
    go_ret2
    exact ⟨rfl, rfl⟩
set_option maxHeartbeats 400000 in
theorem refMul_over (a b : Int) (w : World) (ha : -1125899906842624 ≤ a ∧ a ≤ 1125899906842624) (hb : -1125899906842624 ≤ b ∧ b ≤ 1125899906842624) (h : ¬ Fits a b) :
    Calls Tryd.prog 15 #[.int .i64 a, .int .i64 b] w fun e w' => e = .returned (.tuple #[.int .i64 0, .bool false]) ∧ w = w' := by
  obtain ⟨ha1, ha2⟩ := ha
  obtain ⟨hb1, hb2⟩ := hb
  have h0 : a ≠ 0 := fun h0 => h (Or.inl h0)
  have hs : 1125899906842624 / iabs a < iabs b := by have : ¬ iabs b ≤ 1125899906842624 / iabs a := fun h1 => h (Or.inr h1); omega
  have hp : 1 ≤ iabs a := by unfold iabs; split <;> omega
  have hq : iabs a ≤ 1125899906842624 := iabs_le ha1 ha2
  have hz : (a == 0) = false := by simpa using h0
  have hs' : decide (1125899906842624 / iabs a < iabs b) = true := by simpa using hs
  have HA := Lib.hid h0; clear h0
  clear h
  go_enter Tryd.func15, Tryd.ntmps15
  go_wp2_with fail
  refine (refAbs_any _ _ hb1 hb2).mono ?_; rintro e w' ⟨rfl, rfl⟩
  go_wp2_with fail
  refine (refAbs_any _ _ ha1 ha2).mono ?_; rintro e w' ⟨rfl, rfl⟩
  go_wp2
  go_ret2
  exact ⟨rfl, rfl⟩
set_option maxRecDepth 100000 in
theorem sums_skip (a b : Int) (v : Option Addr) (len cap : Nat) (w : World) (h : (100 < len ∧ len ≤ 1000) ∨ 1100 < len) (hm : len ≤ 9223372036854775807) :
    Calls Tryd.prog 3 #[.int .i64 a, .int .i64 b, .slice v len cap] w fun e w' => e = .returned (.bool true) ∧ Below w.heap.size w w' := by
  rcases h with ⟨h1, h2⟩ | h1
  all_goals
    go_enter Tryd.func3, Tryd.ntmps3
    go_wp2_with fail
    refine (awake_any _).mono ?_; rintro e w1 ⟨rfl, b1⟩
    go_wp2_with fail
    go_ret
    exact ⟨rfl, b1⟩
theorem cells_below {w w1 : World} {b off len : Nat} {z : Nat → Int} (hb : Below w.heap.size w w1) (hl : b < w.heap.size) (h : Cells w b off len z) : Cells w1 b off len z :=
  fun i hi => (hb.cell (p := ⟨b, off + i, none⟩) hl).trans (h i hi)
end Go.Proofs.YtcgmbgamhlfpcaaDoor
