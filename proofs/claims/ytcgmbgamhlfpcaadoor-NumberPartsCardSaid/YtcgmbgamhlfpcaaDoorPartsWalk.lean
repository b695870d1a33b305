/- NumberParts: the reference's quotient and greatest common divisor, and the law's own text, walked: it returns true for every four integers. -/
import Derived.Test.YtcgmbgamhlfpcaaDoorRefChoose
namespace Go.Proofs.YtcgmbgamhlfpcaaDoor
open Go.RowKit
theorem tdiv_mul (a b : Int) : a.tdiv b * b = a - a.tmod b := by
  have := Int.mul_tdiv_add_tmod a b
  rw [Int.mul_comm] at this; omega
set_option maxHeartbeats 1000000 in
theorem refFloor_ok (a b : Int) (w : World) (ha : -1125899906842624 ≤ a ∧ a ≤ 1125899906842624) (hb0 : b ≠ 0) :
    Calls Tryd.prog 20 #[.int .i64 a, .int .i64 b] w fun e w' => e = .returned (.int .i64 (a.fdiv b)) ∧ Below w.heap.size w w' := by
  obtain ⟨ha1, ha2⟩ := ha
  obtain ⟨hd1, hd2⟩ := tdiv_bd a b _ ha1 ha2
  obtain ⟨hm1, hm2⟩ := tmod_bd a b _ ha1 ha2
  have hs := tmod_sign a b
  have hq := tdiv_mul a b
  have hq1 : -2251799813685248 ≤ a.tdiv b * b := by omega
  have hq2 : a.tdiv b * b ≤ 2251799813685248 := by omega
  have hm : a.tmod b = 0 ∨ (a.tmod b < 0 ∧ b < 0) ∨ (0 < a.tmod b ∧ 0 < b) ∨ (a.tmod b < 0 ∧ 0 < b) ∨ (0 < a.tmod b ∧ b < 0) := by omega
  rcases hm with hm | hm | hm | hm | hm
  · have h : a.fdiv b = a.tdiv b := fdiv_same (Or.inl hm)
    rw [h]
    have hq3 : a.tdiv b * b = a := by omega
    have HS := Lib.hid hs; clear hs
    have HQ := Lib.hid hq; clear hq
    have HH := Lib.hid h; clear h
    have HM := Lib.hid hm; clear hm
    go_enter Tryd.func20, Tryd.ntmps20
    go_wp2
    go_ret
    exact ⟨rfl, Below.refl _ _⟩
  · have h : a.fdiv b = a.tdiv b := fdiv_same (Or.inr (Or.inl hm))
    rw [h]
    have e1 : decide (a < 0) = true := decide_eq_true (by omega)
    have e2 : decide (b < 0) = true := decide_eq_true (by omega)
    have hne : ¬ a.tdiv b * b = a := by omega
    have HS := Lib.hid hs; clear hs
    have HQ := Lib.hid hq; clear hq
    have HH := Lib.hid h; clear h
    have HM := Lib.hid hm; clear hm
    go_enter Tryd.func20, Tryd.ntmps20
    go_wp2
    go_ret
    exact ⟨rfl, Below.refl _ _⟩
  · have h : a.fdiv b = a.tdiv b := fdiv_same (Or.inr (Or.inr hm))
    rw [h]
    have e1 : decide (a < 0) = false := decide_eq_false (by omega)
    have e2 : decide (b < 0) = false := decide_eq_false (by omega)
    have hne : ¬ a.tdiv b * b = a := by omega
    have HS := Lib.hid hs; clear hs
    have HQ := Lib.hid hq; clear hq
    have HH := Lib.hid h; clear h
    have HM := Lib.hid hm; clear hm
    go_enter Tryd.func20, Tryd.ntmps20
    go_wp2
    go_ret
    exact ⟨rfl, Below.refl _ _⟩
  · have h : a.fdiv b = a.tdiv b - 1 := fdiv_down (Or.inl hm)
    rw [h]
    have e1 : decide (a < 0) = true := decide_eq_true (by omega)
    have e2 : decide (b < 0) = false := decide_eq_false (by omega)
    have hne : ¬ a.tdiv b * b = a := by omega
    have HS := Lib.hid hs; clear hs
    have HQ := Lib.hid hq; clear hq
    have HH := Lib.hid h; clear h
    have HM := Lib.hid hm; clear hm
    go_enter Tryd.func20, Tryd.ntmps20
    go_wp2
    go_ret
    exact ⟨rfl, Below.refl _ _⟩
  · have h : a.fdiv b = a.tdiv b - 1 := fdiv_down (Or.inr hm)
    rw [h]
    have e1 : decide (a < 0) = false := decide_eq_false (by omega)
    have e2 : decide (b < 0) = true := decide_eq_true (by omega)
    have hne : ¬ a.tdiv b * b = a := by omega
    have HS := Lib.hid hs; clear hs
    have HQ := Lib.hid hq; clear hq
    have HH := Lib.hid h; clear h
    have HM := Lib.hid hm; clear hm
    go_enter Tryd.func20, Tryd.ntmps20
    go_wp2
    go_ret
    exact ⟨rfl, Below.refl _ _⟩
set_option maxHeartbeats 400000 in
theorem refGcd_ok (a b : Int) (w : World) (ha : -1125899906842624 ≤ a ∧ a ≤ 1125899906842624) (hb : -1125899906842624 ≤ b ∧ b ≤ 1125899906842624) :
    Calls Tryd.prog 21 #[.int .i64 a, .int .i64 b] w fun e w' => e = .returned (.int .i64 (Int.gcd a b : Int)) ∧ Below w.heap.size w w' := by
  obtain ⟨ha1, ha2⟩ := ha
  obtain ⟨hb1, hb2⟩ := hb
  have h1 : 0 ≤ iabs a := iabs_nonneg a
  have h2 : 0 ≤ iabs b := iabs_nonneg b
  have h3 : iabs a ≤ 1125899906842624 := iabs_le ha1 ha2
  have h4 : iabs b ≤ 1125899906842624 := iabs_le hb1 hb2
  go_enter Tryd.func21, Tryd.ntmps21
  go_wp2_with fail
  refine (refAbs_any _ _ ha1 ha2).mono ?_; rintro e w' ⟨rfl, rfl⟩
  go_wp2_with fail
  refine (refAbs_any _ _ hb1 hb2).mono ?_; rintro e w' ⟨rfl, rfl⟩
  go_wp2
  go_loop [5, 6] (fun x y => ∃ p q : Nat, p ≤ 1125899906842624 ∧ q ≤ 1125899906842624 ∧ x = .int .i64 p ∧ y = .int .i64 q ∧ Hid (Nat.gcd p q = Int.gcd a b)) (fun _ y => (intOf y).toNat)
  case atStart =>
    exact ⟨(iabs a).toNat, (iabs b).toNat, by omega, by omega, by rw [Int.toNat_of_nonneg h1], by rw [Int.toNat_of_nonneg h2], gcd_iabs a b⟩
  case round =>
    obtain ⟨p, q, hp, hq, rfl, rfl, hg⟩ := hrel
    by_cases hz : q = 0
    · subst hz
      have hpg : p = Int.gcd a b := by have := hg.out; rw [Nat.gcd_zero_right] at this; exact this
      have HP := Lib.hid hpg; clear hpg
      go_wp2
      go_ret
      exact ⟨ret_int1 (congrArg Int.ofNat HP.out), Below.refl _ _⟩
    · have hz' : ((q : Int) == 0) = false := by simp; omega
      have hq0 : (q : Int) ≠ 0 := by omega
      have hm := Nat.mod_lt p (show 0 < q by omega)
      go_wp2
      go_round
      case rel => exact ⟨q, p % q, hq, by omega, rfl, by go_num, gcd_step p q _ hg.out⟩
      case measure => simp [intOf]; omega
end Go.Proofs.YtcgmbgamhlfpcaaDoor
