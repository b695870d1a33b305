/- NumberDivides: the law's own text, walked: it returns true for every two integers. -/
import Derived.Test.YtcgmbgamhlfpcaaDoorTxt
namespace Go.Proofs.YtcgmbgamhlfpcaaDoor
open Go.RowKit
set_option maxHeartbeats 400000 in
theorem divides_range (a b : Int) (w : World) (h : ((a < -1125899906842624 ∨ 1125899906842624 < a) ∨ (b < -1125899906842624 ∨ 1125899906842624 < b)) ∨ b = 0) :
    Calls Tryd.prog 7 #[.int .i64 a, .int .i64 b] w fun e w' => e = .returned (.bool true) ∧ Below w.heap.size w w' := by
  have H := Lib.hid h; clear h
  go_enter Tryd.func7, Tryd.ntmps7
  go_wp2_with fail
  refine (awake_any _).mono ?_; rintro e w1 ⟨rfl, b1⟩
  go_wp2_with fail
  refine (floor_range _ _ _ H.out).mono ?_; rintro e w2 ⟨rfl, rfl⟩
  go_wp2
  go_ret
  exact ⟨rfl, b1⟩
theorem fmod_pos (a b : Int) (h : 0 < b) : 0 ≤ a - b * a.fdiv b ∧ a - b * a.fdiv b < b := by
  rw [← Int.fmod_def]
  exact ⟨Int.fmod_nonneg_of_pos a h, Int.fmod_lt_of_pos a h⟩
theorem fmod_neg (a b : Int) (h : b < 0) : b < a - b * a.fdiv b ∧ a - b * a.fdiv b ≤ 0 := by
  have h1 := fmod_pos (-a) (-b) (by omega)
  have h2 : (-a).fdiv (-b) = a.fdiv b := by simp
  rw [h2, Int.neg_mul] at h1
  omega
theorem gcd_rem (a b q : Int) : Int.gcd b (a - b * q) = Int.gcd a b := by
  rw [Int.gcd_comm, Int.mul_comm b q, Int.gcd_sub_mul_right_left]
set_option maxHeartbeats 400000 in
theorem divides_ok (a b : Int) (w : World) (ha : -1125899906842624 ≤ a ∧ a ≤ 1125899906842624) (hb : -1125899906842624 ≤ b ∧ b ≤ 1125899906842624) (hb0 : b ≠ 0) :
    Calls Tryd.prog 7 #[.int .i64 a, .int .i64 b] w fun e w' => e = .returned (.bool true) ∧ Below w.heap.size w w' := by
  obtain ⟨q, hq⟩ : ∃ q, a.fdiv b = q := ⟨_, rfl⟩
  obtain ⟨G, hG⟩ : ∃ G : Int, (Int.gcd a b : Int) = G := ⟨_, rfl⟩
  have hG2 : (Int.gcd b (a - b * q) : Int) = G := by rw [gcd_rem]; exact hG
  have hr : (0 < b ∧ 0 ≤ a - b * q ∧ a - b * q < b) ∨ (b < 0 ∧ b < a - b * q ∧ a - b * q ≤ 0) := by
    rw [← hq]
    by_cases h : 0 < b
    · left; exact ⟨h, fmod_pos a b h⟩
    · right; exact ⟨by omega, fmod_neg a b (by omega)⟩
  have hGp : 0 < G := by
    have h1 : Int.gcd a b ≠ 0 := fun hz => hb0 (Int.gcd_eq_zero_iff.1 hz).2
    omega
  have hGM : G ≤ 1125899906842624 := by
    have h1 : Int.gcd a b ≤ b.natAbs := Int.gcd_le_natAbs_right a hb0
    omega
  have hA : (a.tmod G == 0) = true := by
    rw [← hG]; simpa using Int.tmod_eq_zero_of_dvd (Int.gcd_dvd_left a b)
  have hB : (b.tmod G == 0) = true := by
    rw [← hG]; simpa using Int.tmod_eq_zero_of_dvd (Int.gcd_dvd_right a b)
  have hA2 : (a % G == 0) = true := by
    rw [← hG]; simpa using Int.emod_eq_zero_of_dvd (Int.gcd_dvd_left a b)
  have hB2 : (b % G == 0) = true := by
    rw [← hG]; simpa using Int.emod_eq_zero_of_dvd (Int.gcd_dvd_right a b)
  have HQ := Lib.hid hq; clear hq
  have HG := Lib.hid hG; clear hG
  have HG2 := Lib.hid hG2; clear hG2
  by_cases hz : a - b * q = 0
  · have hG3 : (Int.gcd b 0 : Int) = G := by rw [← hz]; exact HG2.out
    have HG3 := Lib.hid hG3; clear hG3
    rcases hr with ⟨h1, h2, h3⟩ | ⟨h1, h2, h3⟩
    all_goals
      go_enter Tryd.func7, Tryd.ntmps7
      go_wp2_with fail
      refine (awake_any _).mono ?_; rintro e w1 ⟨rfl, b1⟩
      go_wp2_with fail
      refine (floor_at _ _ _ _ ha hb hb0 HQ.out).mono ?_; rintro e w2 ⟨rfl, b2⟩
      have b2 := below_then b1 b2
      go_wp2_with fail
      with_reducible refine (gcd_at _ _ _ _ ha hb HG.out).mono ?_; rintro e w3 ⟨rfl, b3⟩
      have b3 := below_then b2 b3
      go_wp2_with fail
      with_reducible refine (gcd_at _ _ _ _ hb (by omega) HG3.out).mono ?_; rintro e w4 ⟨rfl, b4⟩
      have b4 := below_then b3 b4
      have hG0 : G ≠ 0 := by omega
      go_wp2
      go_ret
      exact ⟨rfl, b4⟩
  · rcases hr with ⟨h1, h2, h3⟩ | ⟨h1, h2, h3⟩
    · have e1 : decide (b < 0) = false := decide_eq_false (by omega)
      have e2 : decide (a - b * q < 0) = false := decide_eq_false (by omega)
      go_enter Tryd.func7, Tryd.ntmps7
      go_wp2_with fail
      refine (awake_any _).mono ?_; rintro e w1 ⟨rfl, b1⟩
      go_wp2_with fail
      refine (floor_at _ _ _ _ ha hb hb0 HQ.out).mono ?_; rintro e w2 ⟨rfl, b2⟩
      have b2 := below_then b1 b2
      go_wp2_with fail
      with_reducible refine (gcd_at _ _ _ _ ha hb HG.out).mono ?_; rintro e w3 ⟨rfl, b3⟩
      have b3 := below_then b2 b3
      go_wp2_with fail
      with_reducible refine (gcd_at _ _ _ _ hb (by omega) HG2.out).mono ?_; rintro e w4 ⟨rfl, b4⟩
      have b4 := below_then b3 b4
      have hG0 : G ≠ 0 := by omega
      go_wp2
      go_ret
      exact ⟨rfl, b4⟩
    · have e1 : decide (b < 0) = true := decide_eq_true (by omega)
      have e2 : decide (a - b * q < 0) = true := decide_eq_true (by omega)
      go_enter Tryd.func7, Tryd.ntmps7
      go_wp2_with fail
      refine (awake_any _).mono ?_; rintro e w1 ⟨rfl, b1⟩
      go_wp2_with fail
      refine (floor_at _ _ _ _ ha hb hb0 HQ.out).mono ?_; rintro e w2 ⟨rfl, b2⟩
      have b2 := below_then b1 b2
      go_wp2_with fail
      with_reducible refine (gcd_at _ _ _ _ ha hb HG.out).mono ?_; rintro e w3 ⟨rfl, b3⟩
      have b3 := below_then b2 b3
      go_wp2_with fail
      with_reducible refine (gcd_at _ _ _ _ hb (by omega) HG2.out).mono ?_; rintro e w4 ⟨rfl, b4⟩
      have b4 := below_then b3 b4
      have hG0 : G ≠ 0 := by omega
      go_wp2
      go_ret
      exact ⟨rfl, b4⟩
theorem divides_any (a b : Int) (w : World) :
    Calls Tryd.prog 7 #[.int .i64 a, .int .i64 b] w fun e w' => e = .returned (.bool true) ∧ Below w.heap.size w w' := by
  by_cases h : ((a < -1125899906842624 ∨ 1125899906842624 < a) ∨ (b < -1125899906842624 ∨ 1125899906842624 < b)) ∨ b = 0
  · exact divides_range a b w h
  · exact divides_ok a b w (by omega) (by omega) (by omega)
end Go.Proofs.YtcgmbgamhlfpcaaDoor
