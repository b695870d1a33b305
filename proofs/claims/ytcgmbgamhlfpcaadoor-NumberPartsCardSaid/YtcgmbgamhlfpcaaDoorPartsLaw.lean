/- NumberParts: the law's own text, walked: it returns true for every four integers. -/
import Derived.Test.YtcgmbgamhlfpcaaDoorPartsWalk
namespace Go.Proofs.YtcgmbgamhlfpcaaDoor
open Go.RowKit
theorem refFloor_at (a b q : Int) (w : World) (ha : -1125899906842624 ≤ a ∧ a ≤ 1125899906842624) (hb0 : b ≠ 0) (hq : a.fdiv b = q) :
    Calls Tryd.prog 20 #[.int .i64 a, .int .i64 b] w fun e w' => e = .returned (.int .i64 q) ∧ Below w.heap.size w w' := by
  subst hq; exact refFloor_ok a b w ha hb0
theorem refGcd_at (a b G : Int) (w : World) (ha : -1125899906842624 ≤ a ∧ a ≤ 1125899906842624) (hb : -1125899906842624 ≤ b ∧ b ≤ 1125899906842624) (hG : (Int.gcd a b : Int) = G) :
    Calls Tryd.prog 21 #[.int .i64 a, .int .i64 b] w fun e w' => e = .returned (.int .i64 G) ∧ Below w.heap.size w w' := by
  subst hG; exact refGcd_ok a b w ha hb
theorem refChoose_at (N K : Nat) (c : Int) (w : World) (h1 : K ≤ N) (h2 : N ≤ 1000) (hc : ch N K ≤ 1125899906842624) (hcc : (ch N K : Int) = c) :
    Calls Tryd.prog 22 #[.int .i64 N, .int .i64 K] w fun e w' => e = .returned (.tuple #[.int .i64 c, .bool true]) ∧ Below w.heap.size w w' := by
  subst hcc; exact refChoose_ok N K w h1 h2 hc
theorem choose_ov (N K : Nat) (w : World) (h1 : K ≤ N) (h2 : N ≤ 1000) (hc : 1125899906842624 < ch N K) :
    Calls Tryd.prog 19 #[.int .i64 N, .int .i64 K] w fun e w' => e = .returned (.tuple #[.int .i64 0, .int .i64 9]) ∧ w = w' :=
  choose_over N K w (by omega) (by omega) (by omega) hc
set_option maxRecDepth 100000 in
set_option maxHeartbeats 1000000 in
theorem parts_inv1_r1 (a b : Int) (n k : Int) (w : World) (h : a < -1125899906842624 ∨ 1125899906842624 < a) (hr : n < 0) :
    Calls Tryd.prog 4 #[.int .i64 a, .int .i64 b, .int .i64 n, .int .i64 k] w fun e w' => e = .returned (.bool true) ∧ Below w.heap.size w w' := by
  have H := Lib.hid h; clear h
  go_enter Tryd.func4, Tryd.ntmps4
  go_wp2_with fail
  refine (awake_any _).mono ?_; rintro e w0 ⟨rfl, b0⟩
  go_wp2_with fail
  with_reducible refine (floor_range _ _ _ (Or.inl (Or.inl H.out))).mono ?_; rintro e w9 ⟨rfl, rfl⟩
  go_wp2_with fail
  with_reducible refine (gcd_range _ _ _ (Or.inl H.out)).mono ?_; rintro e w9 ⟨rfl, rfl⟩
  go_wp2_with fail
  with_reducible refine (choose_range _ _ _ (Or.inl hr)).mono ?_; rintro e w9 ⟨rfl, rfl⟩
  go_wp2_with fail
  with_reducible refine (refIs_no _ _ H.out).mono ?_; rintro e w9 ⟨rfl, rfl⟩
  go_wp2_with fail
  with_reducible refine (refIs_no _ _ H.out).mono ?_; rintro e w9 ⟨rfl, rfl⟩
  go_wp2_with fail
  go_ret
  exact ⟨rfl, b0⟩
set_option maxRecDepth 100000 in
set_option maxHeartbeats 1000000 in
theorem parts_inv1_r2 (a b : Int) (n k : Int) (w : World) (h : a < -1125899906842624 ∨ 1125899906842624 < a) (hr : 1000 < n) :
    Calls Tryd.prog 4 #[.int .i64 a, .int .i64 b, .int .i64 n, .int .i64 k] w fun e w' => e = .returned (.bool true) ∧ Below w.heap.size w w' := by
  have H := Lib.hid h; clear h
  have g1 : decide (n < 0) = false := decide_eq_false (by omega)
  have g2 : decide (1000 < n) = true := decide_eq_true hr
  go_enter Tryd.func4, Tryd.ntmps4
  go_wp2_with fail
  refine (awake_any _).mono ?_; rintro e w0 ⟨rfl, b0⟩
  go_wp2_with fail
  with_reducible refine (floor_range _ _ _ (Or.inl (Or.inl H.out))).mono ?_; rintro e w9 ⟨rfl, rfl⟩
  go_wp2_with fail
  with_reducible refine (gcd_range _ _ _ (Or.inl H.out)).mono ?_; rintro e w9 ⟨rfl, rfl⟩
  go_wp2_with fail
  with_reducible refine (choose_range _ _ _ (Or.inr (Or.inl hr))).mono ?_; rintro e w9 ⟨rfl, rfl⟩
  go_wp2_with fail
  with_reducible refine (refIs_no _ _ H.out).mono ?_; rintro e w9 ⟨rfl, rfl⟩
  go_wp2_with fail
  with_reducible refine (refIs_no _ _ H.out).mono ?_; rintro e w9 ⟨rfl, rfl⟩
  go_wp2_with fail
  go_ret
  exact ⟨rfl, b0⟩
set_option maxRecDepth 100000 in
set_option maxHeartbeats 1000000 in
theorem parts_inv1_r3 (a b : Int) (n k : Int) (w : World) (h : a < -1125899906842624 ∨ 1125899906842624 < a) (hn : 0 ≤ n ∧ n ≤ 1000) (hr : k < 0) :
    Calls Tryd.prog 4 #[.int .i64 a, .int .i64 b, .int .i64 n, .int .i64 k] w fun e w' => e = .returned (.bool true) ∧ Below w.heap.size w w' := by
  have H := Lib.hid h; clear h
  have g1 : decide (n < 0) = false := decide_eq_false (by omega)
  have g2 : decide (1000 < n) = false := decide_eq_false (by omega)
  have g3 : decide (k < 0) = true := decide_eq_true hr
  go_enter Tryd.func4, Tryd.ntmps4
  go_wp2_with fail
  refine (awake_any _).mono ?_; rintro e w0 ⟨rfl, b0⟩
  go_wp2_with fail
  with_reducible refine (floor_range _ _ _ (Or.inl (Or.inl H.out))).mono ?_; rintro e w9 ⟨rfl, rfl⟩
  go_wp2_with fail
  with_reducible refine (gcd_range _ _ _ (Or.inl H.out)).mono ?_; rintro e w9 ⟨rfl, rfl⟩
  go_wp2_with fail
  with_reducible refine (choose_range _ _ _ (Or.inr (Or.inr (Or.inl hr)))).mono ?_; rintro e w9 ⟨rfl, rfl⟩
  go_wp2_with fail
  with_reducible refine (refIs_no _ _ H.out).mono ?_; rintro e w9 ⟨rfl, rfl⟩
  go_wp2_with fail
  with_reducible refine (refIs_no _ _ H.out).mono ?_; rintro e w9 ⟨rfl, rfl⟩
  go_wp2_with fail
  go_ret
  exact ⟨rfl, b0⟩
set_option maxRecDepth 100000 in
set_option maxHeartbeats 1000000 in
theorem parts_inv1_r4 (a b : Int) (n k : Int) (w : World) (h : a < -1125899906842624 ∨ 1125899906842624 < a) (hn : 0 ≤ n ∧ n ≤ 1000) (hk : 0 ≤ k) (hr : n < k) :
    Calls Tryd.prog 4 #[.int .i64 a, .int .i64 b, .int .i64 n, .int .i64 k] w fun e w' => e = .returned (.bool true) ∧ Below w.heap.size w w' := by
  have H := Lib.hid h; clear h
  have g1 : decide (n < 0) = false := decide_eq_false (by omega)
  have g2 : decide (1000 < n) = false := decide_eq_false (by omega)
  have g3 : decide (k < 0) = false := decide_eq_false (by omega)
  have g4 : decide (n < k) = true := decide_eq_true hr
  go_enter Tryd.func4, Tryd.ntmps4
  go_wp2_with fail
  refine (awake_any _).mono ?_; rintro e w0 ⟨rfl, b0⟩
  go_wp2_with fail
  with_reducible refine (floor_range _ _ _ (Or.inl (Or.inl H.out))).mono ?_; rintro e w9 ⟨rfl, rfl⟩
  go_wp2_with fail
  with_reducible refine (gcd_range _ _ _ (Or.inl H.out)).mono ?_; rintro e w9 ⟨rfl, rfl⟩
  go_wp2_with fail
  with_reducible refine (choose_range _ _ _ (Or.inr (Or.inr (Or.inr hr)))).mono ?_; rintro e w9 ⟨rfl, rfl⟩
  go_wp2_with fail
  with_reducible refine (refIs_no _ _ H.out).mono ?_; rintro e w9 ⟨rfl, rfl⟩
  go_wp2_with fail
  with_reducible refine (refIs_no _ _ H.out).mono ?_; rintro e w9 ⟨rfl, rfl⟩
  go_wp2_with fail
  go_ret
  exact ⟨rfl, b0⟩
set_option maxRecDepth 100000 in
set_option maxHeartbeats 1000000 in
theorem parts_inv1_ok (a b : Int) (n k : Nat) (w : World) (h : a < -1125899906842624 ∨ 1125899906842624 < a) (hn : k ≤ n) (hk : n ≤ 1000) (hc : ch n k ≤ 1125899906842624) :
    Calls Tryd.prog 4 #[.int .i64 a, .int .i64 b, .int .i64 n, .int .i64 k] w fun e w' => e = .returned (.bool true) ∧ Below w.heap.size w w' := by
  have H := Lib.hid h; clear h
  obtain ⟨c, hcc⟩ : ∃ c : Int, (ch n k : Int) = c := ⟨_, rfl⟩
  have hcM : c ≤ 1125899906842624 := by omega
  have HCC := Lib.hid hcc; clear hcc
  have HC := Lib.hid hc; clear hc
  go_enter Tryd.func4, Tryd.ntmps4
  go_wp2_with fail
  refine (awake_any _).mono ?_; rintro e w0 ⟨rfl, b0⟩
  go_wp2_with fail
  with_reducible refine (floor_range _ _ _ (Or.inl (Or.inl H.out))).mono ?_; rintro e w9 ⟨rfl, rfl⟩
  go_wp2_with fail
  with_reducible refine (gcd_range _ _ _ (Or.inl H.out)).mono ?_; rintro e w9 ⟨rfl, rfl⟩
  go_wp2_with fail
  with_reducible refine (choose_at n k _ _ c _ rfl rfl hn hk HCC.out hcM).mono ?_; rintro e w9 ⟨rfl, rfl⟩
  go_wp2_with fail
  with_reducible refine (refIs_no _ _ H.out).mono ?_; rintro e w9 ⟨rfl, rfl⟩
  go_wp2_with fail
  with_reducible refine (refIs_no _ _ H.out).mono ?_; rintro e w9 ⟨rfl, rfl⟩
  go_wp2_with fail
  with_reducible refine (refChoose_at n k c _ hn hk HC.out HCC.out).mono ?_; rintro e w1 ⟨rfl, c1⟩
  have b1 := below_then b0 c1
  clear c1
  go_wp2_with fail
  go_ret
  exact ⟨rfl, b1⟩
set_option maxRecDepth 100000 in
set_option maxHeartbeats 1000000 in
theorem parts_inv1_ov (a b : Int) (n k : Nat) (w : World) (h : a < -1125899906842624 ∨ 1125899906842624 < a) (hn : k ≤ n) (hk : n ≤ 1000) (hc : 1125899906842624 < ch n k) :
    Calls Tryd.prog 4 #[.int .i64 a, .int .i64 b, .int .i64 n, .int .i64 k] w fun e w' => e = .returned (.bool true) ∧ Below w.heap.size w w' := by
  have H := Lib.hid h; clear h
  have HC := Lib.hid hc; clear hc
  go_enter Tryd.func4, Tryd.ntmps4
  go_wp2_with fail
  refine (awake_any _).mono ?_; rintro e w0 ⟨rfl, b0⟩
  go_wp2_with fail
  with_reducible refine (floor_range _ _ _ (Or.inl (Or.inl H.out))).mono ?_; rintro e w9 ⟨rfl, rfl⟩
  go_wp2_with fail
  with_reducible refine (gcd_range _ _ _ (Or.inl H.out)).mono ?_; rintro e w9 ⟨rfl, rfl⟩
  go_wp2_with fail
  with_reducible refine (choose_ov n k _ hn hk HC.out).mono ?_; rintro e w9 ⟨rfl, rfl⟩
  go_wp2_with fail
  with_reducible refine (refIs_no _ _ H.out).mono ?_; rintro e w9 ⟨rfl, rfl⟩
  go_wp2_with fail
  with_reducible refine (refIs_no _ _ H.out).mono ?_; rintro e w9 ⟨rfl, rfl⟩
  go_wp2_with fail
  with_reducible refine (refChoose_over n k _ hn hk HC.out).mono ?_; rintro e w1 ⟨rfl, c1⟩
  have b1 := below_then b0 c1
  clear c1
  go_wp2_with fail
  go_ret
  exact ⟨rfl, b1⟩
set_option maxRecDepth 100000 in
set_option maxHeartbeats 1000000 in
theorem parts_inv2_r1 (a b : Int) (n k : Int) (w : World) (ha : -1125899906842624 ≤ a ∧ a ≤ 1125899906842624) (h : b < -1125899906842624 ∨ 1125899906842624 < b) (hr : n < 0) :
    Calls Tryd.prog 4 #[.int .i64 a, .int .i64 b, .int .i64 n, .int .i64 k] w fun e w' => e = .returned (.bool true) ∧ Below w.heap.size w w' := by
  have H := Lib.hid h; clear h
  go_enter Tryd.func4, Tryd.ntmps4
  go_wp2_with fail
  refine (awake_any _).mono ?_; rintro e w0 ⟨rfl, b0⟩
  go_wp2_with fail
  with_reducible refine (floor_range _ _ _ (Or.inl (Or.inr H.out))).mono ?_; rintro e w9 ⟨rfl, rfl⟩
  go_wp2_with fail
  with_reducible refine (gcd_range _ _ _ (Or.inr H.out)).mono ?_; rintro e w9 ⟨rfl, rfl⟩
  go_wp2_with fail
  with_reducible refine (choose_range _ _ _ (Or.inl hr)).mono ?_; rintro e w9 ⟨rfl, rfl⟩
  go_wp2_with fail
  with_reducible refine (refIs_yes _ _ ha.1 ha.2).mono ?_; rintro e w9 ⟨rfl, rfl⟩
  go_wp2_with fail
  with_reducible refine (refIs_no _ _ H.out).mono ?_; rintro e w9 ⟨rfl, rfl⟩
  go_wp2_with fail
  with_reducible refine (refIs_yes _ _ ha.1 ha.2).mono ?_; rintro e w9 ⟨rfl, rfl⟩
  go_wp2_with fail
  with_reducible refine (refIs_no _ _ H.out).mono ?_; rintro e w9 ⟨rfl, rfl⟩
  go_wp2_with fail
  go_ret
  exact ⟨rfl, b0⟩
set_option maxRecDepth 100000 in
set_option maxHeartbeats 1000000 in
theorem parts_inv2_r2 (a b : Int) (n k : Int) (w : World) (ha : -1125899906842624 ≤ a ∧ a ≤ 1125899906842624) (h : b < -1125899906842624 ∨ 1125899906842624 < b) (hr : 1000 < n) :
    Calls Tryd.prog 4 #[.int .i64 a, .int .i64 b, .int .i64 n, .int .i64 k] w fun e w' => e = .returned (.bool true) ∧ Below w.heap.size w w' := by
  have H := Lib.hid h; clear h
  have g1 : decide (n < 0) = false := decide_eq_false (by omega)
  have g2 : decide (1000 < n) = true := decide_eq_true hr
  go_enter Tryd.func4, Tryd.ntmps4
  go_wp2_with fail
  refine (awake_any _).mono ?_; rintro e w0 ⟨rfl, b0⟩
  go_wp2_with fail
  with_reducible refine (floor_range _ _ _ (Or.inl (Or.inr H.out))).mono ?_; rintro e w9 ⟨rfl, rfl⟩
  go_wp2_with fail
  with_reducible refine (gcd_range _ _ _ (Or.inr H.out)).mono ?_; rintro e w9 ⟨rfl, rfl⟩
  go_wp2_with fail
  with_reducible refine (choose_range _ _ _ (Or.inr (Or.inl hr))).mono ?_; rintro e w9 ⟨rfl, rfl⟩
  go_wp2_with fail
  with_reducible refine (refIs_yes _ _ ha.1 ha.2).mono ?_; rintro e w9 ⟨rfl, rfl⟩
  go_wp2_with fail
  with_reducible refine (refIs_no _ _ H.out).mono ?_; rintro e w9 ⟨rfl, rfl⟩
  go_wp2_with fail
  with_reducible refine (refIs_yes _ _ ha.1 ha.2).mono ?_; rintro e w9 ⟨rfl, rfl⟩
  go_wp2_with fail
  with_reducible refine (refIs_no _ _ H.out).mono ?_; rintro e w9 ⟨rfl, rfl⟩
  go_wp2_with fail
  go_ret
  exact ⟨rfl, b0⟩
set_option maxRecDepth 100000 in
set_option maxHeartbeats 1000000 in
theorem parts_inv2_r3 (a b : Int) (n k : Int) (w : World) (ha : -1125899906842624 ≤ a ∧ a ≤ 1125899906842624) (h : b < -1125899906842624 ∨ 1125899906842624 < b) (hn : 0 ≤ n ∧ n ≤ 1000) (hr : k < 0) :
    Calls Tryd.prog 4 #[.int .i64 a, .int .i64 b, .int .i64 n, .int .i64 k] w fun e w' => e = .returned (.bool true) ∧ Below w.heap.size w w' := by
  have H := Lib.hid h; clear h
  have g1 : decide (n < 0) = false := decide_eq_false (by omega)
  have g2 : decide (1000 < n) = false := decide_eq_false (by omega)
  have g3 : decide (k < 0) = true := decide_eq_true hr
  go_enter Tryd.func4, Tryd.ntmps4
  go_wp2_with fail
  refine (awake_any _).mono ?_; rintro e w0 ⟨rfl, b0⟩
  go_wp2_with fail
  with_reducible refine (floor_range _ _ _ (Or.inl (Or.inr H.out))).mono ?_; rintro e w9 ⟨rfl, rfl⟩
  go_wp2_with fail
  with_reducible refine (gcd_range _ _ _ (Or.inr H.out)).mono ?_; rintro e w9 ⟨rfl, rfl⟩
  go_wp2_with fail
  with_reducible refine (choose_range _ _ _ (Or.inr (Or.inr (Or.inl hr)))).mono ?_; rintro e w9 ⟨rfl, rfl⟩
  go_wp2_with fail
  with_reducible refine (refIs_yes _ _ ha.1 ha.2).mono ?_; rintro e w9 ⟨rfl, rfl⟩
  go_wp2_with fail
  with_reducible refine (refIs_no _ _ H.out).mono ?_; rintro e w9 ⟨rfl, rfl⟩
  go_wp2_with fail
  with_reducible refine (refIs_yes _ _ ha.1 ha.2).mono ?_; rintro e w9 ⟨rfl, rfl⟩
  go_wp2_with fail
  with_reducible refine (refIs_no _ _ H.out).mono ?_; rintro e w9 ⟨rfl, rfl⟩
  go_wp2_with fail
  go_ret
  exact ⟨rfl, b0⟩
set_option maxRecDepth 100000 in
set_option maxHeartbeats 1000000 in
theorem parts_inv2_r4 (a b : Int) (n k : Int) (w : World) (ha : -1125899906842624 ≤ a ∧ a ≤ 1125899906842624) (h : b < -1125899906842624 ∨ 1125899906842624 < b) (hn : 0 ≤ n ∧ n ≤ 1000) (hk : 0 ≤ k) (hr : n < k) :
    Calls Tryd.prog 4 #[.int .i64 a, .int .i64 b, .int .i64 n, .int .i64 k] w fun e w' => e = .returned (.bool true) ∧ Below w.heap.size w w' := by
  have H := Lib.hid h; clear h
  have g1 : decide (n < 0) = false := decide_eq_false (by omega)
  have g2 : decide (1000 < n) = false := decide_eq_false (by omega)
  have g3 : decide (k < 0) = false := decide_eq_false (by omega)
  have g4 : decide (n < k) = true := decide_eq_true hr
  go_enter Tryd.func4, Tryd.ntmps4
  go_wp2_with fail
  refine (awake_any _).mono ?_; rintro e w0 ⟨rfl, b0⟩
  go_wp2_with fail
  with_reducible refine (floor_range _ _ _ (Or.inl (Or.inr H.out))).mono ?_; rintro e w9 ⟨rfl, rfl⟩
  go_wp2_with fail
  with_reducible refine (gcd_range _ _ _ (Or.inr H.out)).mono ?_; rintro e w9 ⟨rfl, rfl⟩
  go_wp2_with fail
  with_reducible refine (choose_range _ _ _ (Or.inr (Or.inr (Or.inr hr)))).mono ?_; rintro e w9 ⟨rfl, rfl⟩
  go_wp2_with fail
  with_reducible refine (refIs_yes _ _ ha.1 ha.2).mono ?_; rintro e w9 ⟨rfl, rfl⟩
  go_wp2_with fail
  with_reducible refine (refIs_no _ _ H.out).mono ?_; rintro e w9 ⟨rfl, rfl⟩
  go_wp2_with fail
  with_reducible refine (refIs_yes _ _ ha.1 ha.2).mono ?_; rintro e w9 ⟨rfl, rfl⟩
  go_wp2_with fail
  with_reducible refine (refIs_no _ _ H.out).mono ?_; rintro e w9 ⟨rfl, rfl⟩
  go_wp2_with fail
  go_ret
  exact ⟨rfl, b0⟩
set_option maxRecDepth 100000 in
set_option maxHeartbeats 1000000 in
theorem parts_inv2_ok (a b : Int) (n k : Nat) (w : World) (ha : -1125899906842624 ≤ a ∧ a ≤ 1125899906842624) (h : b < -1125899906842624 ∨ 1125899906842624 < b) (hn : k ≤ n) (hk : n ≤ 1000) (hc : ch n k ≤ 1125899906842624) :
    Calls Tryd.prog 4 #[.int .i64 a, .int .i64 b, .int .i64 n, .int .i64 k] w fun e w' => e = .returned (.bool true) ∧ Below w.heap.size w w' := by
  have H := Lib.hid h; clear h
  obtain ⟨c, hcc⟩ : ∃ c : Int, (ch n k : Int) = c := ⟨_, rfl⟩
  have hcM : c ≤ 1125899906842624 := by omega
  have HCC := Lib.hid hcc; clear hcc
  have HC := Lib.hid hc; clear hc
  go_enter Tryd.func4, Tryd.ntmps4
  go_wp2_with fail
  refine (awake_any _).mono ?_; rintro e w0 ⟨rfl, b0⟩
  go_wp2_with fail
  with_reducible refine (floor_range _ _ _ (Or.inl (Or.inr H.out))).mono ?_; rintro e w9 ⟨rfl, rfl⟩
  go_wp2_with fail
  with_reducible refine (gcd_range _ _ _ (Or.inr H.out)).mono ?_; rintro e w9 ⟨rfl, rfl⟩
  go_wp2_with fail
  with_reducible refine (choose_at n k _ _ c _ rfl rfl hn hk HCC.out hcM).mono ?_; rintro e w9 ⟨rfl, rfl⟩
  go_wp2_with fail
  with_reducible refine (refIs_yes _ _ ha.1 ha.2).mono ?_; rintro e w9 ⟨rfl, rfl⟩
  go_wp2_with fail
  with_reducible refine (refIs_no _ _ H.out).mono ?_; rintro e w9 ⟨rfl, rfl⟩
  go_wp2_with fail
  with_reducible refine (refIs_yes _ _ ha.1 ha.2).mono ?_; rintro e w9 ⟨rfl, rfl⟩
  go_wp2_with fail
  with_reducible refine (refIs_no _ _ H.out).mono ?_; rintro e w9 ⟨rfl, rfl⟩
  go_wp2_with fail
  with_reducible refine (refChoose_at n k c _ hn hk HC.out HCC.out).mono ?_; rintro e w1 ⟨rfl, c1⟩
  have b1 := below_then b0 c1
  clear c1
  go_wp2_with fail
  go_ret
  exact ⟨rfl, b1⟩
set_option maxRecDepth 100000 in
set_option maxHeartbeats 1000000 in
theorem parts_inv2_ov (a b : Int) (n k : Nat) (w : World) (ha : -1125899906842624 ≤ a ∧ a ≤ 1125899906842624) (h : b < -1125899906842624 ∨ 1125899906842624 < b) (hn : k ≤ n) (hk : n ≤ 1000) (hc : 1125899906842624 < ch n k) :
    Calls Tryd.prog 4 #[.int .i64 a, .int .i64 b, .int .i64 n, .int .i64 k] w fun e w' => e = .returned (.bool true) ∧ Below w.heap.size w w' := by
  have H := Lib.hid h; clear h
  have HC := Lib.hid hc; clear hc
  go_enter Tryd.func4, Tryd.ntmps4
  go_wp2_with fail
  refine (awake_any _).mono ?_; rintro e w0 ⟨rfl, b0⟩
  go_wp2_with fail
  with_reducible refine (floor_range _ _ _ (Or.inl (Or.inr H.out))).mono ?_; rintro e w9 ⟨rfl, rfl⟩
  go_wp2_with fail
  with_reducible refine (gcd_range _ _ _ (Or.inr H.out)).mono ?_; rintro e w9 ⟨rfl, rfl⟩
  go_wp2_with fail
  with_reducible refine (choose_ov n k _ hn hk HC.out).mono ?_; rintro e w9 ⟨rfl, rfl⟩
  go_wp2_with fail
  with_reducible refine (refIs_yes _ _ ha.1 ha.2).mono ?_; rintro e w9 ⟨rfl, rfl⟩
  go_wp2_with fail
  with_reducible refine (refIs_no _ _ H.out).mono ?_; rintro e w9 ⟨rfl, rfl⟩
  go_wp2_with fail
  with_reducible refine (refIs_yes _ _ ha.1 ha.2).mono ?_; rintro e w9 ⟨rfl, rfl⟩
  go_wp2_with fail
  with_reducible refine (refIs_no _ _ H.out).mono ?_; rintro e w9 ⟨rfl, rfl⟩
  go_wp2_with fail
  with_reducible refine (refChoose_over n k _ hn hk HC.out).mono ?_; rintro e w1 ⟨rfl, c1⟩
  have b1 := below_then b0 c1
  clear c1
  go_wp2_with fail
  go_ret
  exact ⟨rfl, b1⟩
set_option maxRecDepth 100000 in
set_option maxHeartbeats 1000000 in
theorem parts_zero_r1 (a b : Int) (n k : Int) (w : World) (ha : -1125899906842624 ≤ a ∧ a ≤ 1125899906842624) (hb : b = 0) (hr : n < 0) :
    Calls Tryd.prog 4 #[.int .i64 a, .int .i64 b, .int .i64 n, .int .i64 k] w fun e w' => e = .returned (.bool true) ∧ Below w.heap.size w w' := by
  subst hb
  obtain ⟨G, hG⟩ : ∃ G : Int, (Int.gcd a 0 : Int) = G := ⟨_, rfl⟩
  have HG := Lib.hid hG; clear hG
  go_enter Tryd.func4, Tryd.ntmps4
  go_wp2_with fail
  refine (awake_any _).mono ?_; rintro e w0 ⟨rfl, b0⟩
  go_wp2_with fail
  with_reducible refine (floor_range _ _ _ (Or.inr rfl)).mono ?_; rintro e w9 ⟨rfl, rfl⟩
  go_wp2_with fail
  with_reducible refine (gcd_at _ _ _ _ ha (by omega) HG.out).mono ?_; rintro e w1 ⟨rfl, c1⟩
  have b1 := below_then b0 c1
  clear c1
  go_wp2_with fail
  with_reducible refine (choose_range _ _ _ (Or.inl hr)).mono ?_; rintro e w9 ⟨rfl, rfl⟩
  go_wp2_with fail
  with_reducible refine (refIs_yes _ _ ha.1 ha.2).mono ?_; rintro e w9 ⟨rfl, rfl⟩
  go_wp2_with fail
  with_reducible refine (refIs_yes _ _ (by omega) (by omega)).mono ?_; rintro e w9 ⟨rfl, rfl⟩
  go_wp2_with fail
  with_reducible refine (refIs_yes _ _ ha.1 ha.2).mono ?_; rintro e w9 ⟨rfl, rfl⟩
  go_wp2_with fail
  with_reducible refine (refIs_yes _ _ (by omega) (by omega)).mono ?_; rintro e w9 ⟨rfl, rfl⟩
  go_wp2_with fail
  with_reducible refine (refGcd_at _ _ _ _ ha (by omega) HG.out).mono ?_; rintro e w2 ⟨rfl, c2⟩
  have b2 := below_then b1 c2
  clear c2
  go_wp2_with fail
  go_ret
  exact ⟨rfl, b2⟩
set_option maxRecDepth 100000 in
set_option maxHeartbeats 1000000 in
theorem parts_zero_r2 (a b : Int) (n k : Int) (w : World) (ha : -1125899906842624 ≤ a ∧ a ≤ 1125899906842624) (hb : b = 0) (hr : 1000 < n) :
    Calls Tryd.prog 4 #[.int .i64 a, .int .i64 b, .int .i64 n, .int .i64 k] w fun e w' => e = .returned (.bool true) ∧ Below w.heap.size w w' := by
  subst hb
  obtain ⟨G, hG⟩ : ∃ G : Int, (Int.gcd a 0 : Int) = G := ⟨_, rfl⟩
  have HG := Lib.hid hG; clear hG
  have g1 : decide (n < 0) = false := decide_eq_false (by omega)
  have g2 : decide (1000 < n) = true := decide_eq_true hr
  go_enter Tryd.func4, Tryd.ntmps4
  go_wp2_with fail
  refine (awake_any _).mono ?_; rintro e w0 ⟨rfl, b0⟩
  go_wp2_with fail
  with_reducible refine (floor_range _ _ _ (Or.inr rfl)).mono ?_; rintro e w9 ⟨rfl, rfl⟩
  go_wp2_with fail
  with_reducible refine (gcd_at _ _ _ _ ha (by omega) HG.out).mono ?_; rintro e w1 ⟨rfl, c1⟩
  have b1 := below_then b0 c1
  clear c1
  go_wp2_with fail
  with_reducible refine (choose_range _ _ _ (Or.inr (Or.inl hr))).mono ?_; rintro e w9 ⟨rfl, rfl⟩
  go_wp2_with fail
  with_reducible refine (refIs_yes _ _ ha.1 ha.2).mono ?_; rintro e w9 ⟨rfl, rfl⟩
  go_wp2_with fail
  with_reducible refine (refIs_yes _ _ (by omega) (by omega)).mono ?_; rintro e w9 ⟨rfl, rfl⟩
  go_wp2_with fail
  with_reducible refine (refIs_yes _ _ ha.1 ha.2).mono ?_; rintro e w9 ⟨rfl, rfl⟩
  go_wp2_with fail
  with_reducible refine (refIs_yes _ _ (by omega) (by omega)).mono ?_; rintro e w9 ⟨rfl, rfl⟩
  go_wp2_with fail
  with_reducible refine (refGcd_at _ _ _ _ ha (by omega) HG.out).mono ?_; rintro e w2 ⟨rfl, c2⟩
  have b2 := below_then b1 c2
  clear c2
  go_wp2_with fail
  go_ret
  exact ⟨rfl, b2⟩
set_option maxRecDepth 100000 in
set_option maxHeartbeats 1000000 in
theorem parts_zero_r3 (a b : Int) (n k : Int) (w : World) (ha : -1125899906842624 ≤ a ∧ a ≤ 1125899906842624) (hb : b = 0) (hn : 0 ≤ n ∧ n ≤ 1000) (hr : k < 0) :
    Calls Tryd.prog 4 #[.int .i64 a, .int .i64 b, .int .i64 n, .int .i64 k] w fun e w' => e = .returned (.bool true) ∧ Below w.heap.size w w' := by
  subst hb
  obtain ⟨G, hG⟩ : ∃ G : Int, (Int.gcd a 0 : Int) = G := ⟨_, rfl⟩
  have HG := Lib.hid hG; clear hG
  have g1 : decide (n < 0) = false := decide_eq_false (by omega)
  have g2 : decide (1000 < n) = false := decide_eq_false (by omega)
  have g3 : decide (k < 0) = true := decide_eq_true hr
  go_enter Tryd.func4, Tryd.ntmps4
  go_wp2_with fail
  refine (awake_any _).mono ?_; rintro e w0 ⟨rfl, b0⟩
  go_wp2_with fail
  with_reducible refine (floor_range _ _ _ (Or.inr rfl)).mono ?_; rintro e w9 ⟨rfl, rfl⟩
  go_wp2_with fail
  with_reducible refine (gcd_at _ _ _ _ ha (by omega) HG.out).mono ?_; rintro e w1 ⟨rfl, c1⟩
  have b1 := below_then b0 c1
  clear c1
  go_wp2_with fail
  with_reducible refine (choose_range _ _ _ (Or.inr (Or.inr (Or.inl hr)))).mono ?_; rintro e w9 ⟨rfl, rfl⟩
  go_wp2_with fail
  with_reducible refine (refIs_yes _ _ ha.1 ha.2).mono ?_; rintro e w9 ⟨rfl, rfl⟩
  go_wp2_with fail
  with_reducible refine (refIs_yes _ _ (by omega) (by omega)).mono ?_; rintro e w9 ⟨rfl, rfl⟩
  go_wp2_with fail
  with_reducible refine (refIs_yes _ _ ha.1 ha.2).mono ?_; rintro e w9 ⟨rfl, rfl⟩
  go_wp2_with fail
  with_reducible refine (refIs_yes _ _ (by omega) (by omega)).mono ?_; rintro e w9 ⟨rfl, rfl⟩
  go_wp2_with fail
  with_reducible refine (refGcd_at _ _ _ _ ha (by omega) HG.out).mono ?_; rintro e w2 ⟨rfl, c2⟩
  have b2 := below_then b1 c2
  clear c2
  go_wp2_with fail
  go_ret
  exact ⟨rfl, b2⟩
set_option maxRecDepth 100000 in
set_option maxHeartbeats 1000000 in
theorem parts_zero_r4 (a b : Int) (n k : Int) (w : World) (ha : -1125899906842624 ≤ a ∧ a ≤ 1125899906842624) (hb : b = 0) (hn : 0 ≤ n ∧ n ≤ 1000) (hk : 0 ≤ k) (hr : n < k) :
    Calls Tryd.prog 4 #[.int .i64 a, .int .i64 b, .int .i64 n, .int .i64 k] w fun e w' => e = .returned (.bool true) ∧ Below w.heap.size w w' := by
  subst hb
  obtain ⟨G, hG⟩ : ∃ G : Int, (Int.gcd a 0 : Int) = G := ⟨_, rfl⟩
  have HG := Lib.hid hG; clear hG
  have g1 : decide (n < 0) = false := decide_eq_false (by omega)
  have g2 : decide (1000 < n) = false := decide_eq_false (by omega)
  have g3 : decide (k < 0) = false := decide_eq_false (by omega)
  have g4 : decide (n < k) = true := decide_eq_true hr
  go_enter Tryd.func4, Tryd.ntmps4
  go_wp2_with fail
  refine (awake_any _).mono ?_; rintro e w0 ⟨rfl, b0⟩
  go_wp2_with fail
  with_reducible refine (floor_range _ _ _ (Or.inr rfl)).mono ?_; rintro e w9 ⟨rfl, rfl⟩
  go_wp2_with fail
  with_reducible refine (gcd_at _ _ _ _ ha (by omega) HG.out).mono ?_; rintro e w1 ⟨rfl, c1⟩
  have b1 := below_then b0 c1
  clear c1
  go_wp2_with fail
  with_reducible refine (choose_range _ _ _ (Or.inr (Or.inr (Or.inr hr)))).mono ?_; rintro e w9 ⟨rfl, rfl⟩
  go_wp2_with fail
  with_reducible refine (refIs_yes _ _ ha.1 ha.2).mono ?_; rintro e w9 ⟨rfl, rfl⟩
  go_wp2_with fail
  with_reducible refine (refIs_yes _ _ (by omega) (by omega)).mono ?_; rintro e w9 ⟨rfl, rfl⟩
  go_wp2_with fail
  with_reducible refine (refIs_yes _ _ ha.1 ha.2).mono ?_; rintro e w9 ⟨rfl, rfl⟩
  go_wp2_with fail
  with_reducible refine (refIs_yes _ _ (by omega) (by omega)).mono ?_; rintro e w9 ⟨rfl, rfl⟩
  go_wp2_with fail
  with_reducible refine (refGcd_at _ _ _ _ ha (by omega) HG.out).mono ?_; rintro e w2 ⟨rfl, c2⟩
  have b2 := below_then b1 c2
  clear c2
  go_wp2_with fail
  go_ret
  exact ⟨rfl, b2⟩
set_option maxRecDepth 100000 in
set_option maxHeartbeats 1000000 in
theorem parts_zero_ok (a b : Int) (n k : Nat) (w : World) (ha : -1125899906842624 ≤ a ∧ a ≤ 1125899906842624) (hb : b = 0) (hn : k ≤ n) (hk : n ≤ 1000) (hc : ch n k ≤ 1125899906842624) :
    Calls Tryd.prog 4 #[.int .i64 a, .int .i64 b, .int .i64 n, .int .i64 k] w fun e w' => e = .returned (.bool true) ∧ Below w.heap.size w w' := by
  subst hb
  obtain ⟨G, hG⟩ : ∃ G : Int, (Int.gcd a 0 : Int) = G := ⟨_, rfl⟩
  have HG := Lib.hid hG; clear hG
  obtain ⟨c, hcc⟩ : ∃ c : Int, (ch n k : Int) = c := ⟨_, rfl⟩
  have hcM : c ≤ 1125899906842624 := by omega
  have HCC := Lib.hid hcc; clear hcc
  have HC := Lib.hid hc; clear hc
  go_enter Tryd.func4, Tryd.ntmps4
  go_wp2_with fail
  refine (awake_any _).mono ?_; rintro e w0 ⟨rfl, b0⟩
  go_wp2_with fail
  with_reducible refine (floor_range _ _ _ (Or.inr rfl)).mono ?_; rintro e w9 ⟨rfl, rfl⟩
  go_wp2_with fail
  with_reducible refine (gcd_at _ _ _ _ ha (by omega) HG.out).mono ?_; rintro e w1 ⟨rfl, c1⟩
  have b1 := below_then b0 c1
  clear c1
  go_wp2_with fail
  with_reducible refine (choose_at n k _ _ c _ rfl rfl hn hk HCC.out hcM).mono ?_; rintro e w9 ⟨rfl, rfl⟩
  go_wp2_with fail
  with_reducible refine (refIs_yes _ _ ha.1 ha.2).mono ?_; rintro e w9 ⟨rfl, rfl⟩
  go_wp2_with fail
  with_reducible refine (refIs_yes _ _ (by omega) (by omega)).mono ?_; rintro e w9 ⟨rfl, rfl⟩
  go_wp2_with fail
  with_reducible refine (refIs_yes _ _ ha.1 ha.2).mono ?_; rintro e w9 ⟨rfl, rfl⟩
  go_wp2_with fail
  with_reducible refine (refIs_yes _ _ (by omega) (by omega)).mono ?_; rintro e w9 ⟨rfl, rfl⟩
  go_wp2_with fail
  with_reducible refine (refGcd_at _ _ _ _ ha (by omega) HG.out).mono ?_; rintro e w2 ⟨rfl, c2⟩
  have b2 := below_then b1 c2
  clear c2
  go_wp2_with fail
  with_reducible refine (refChoose_at n k c _ hn hk HC.out HCC.out).mono ?_; rintro e w3 ⟨rfl, c3⟩
  have b3 := below_then b2 c3
  clear c3
  go_wp2_with fail
  go_ret
  exact ⟨rfl, b3⟩
set_option maxRecDepth 100000 in
set_option maxHeartbeats 1000000 in
theorem parts_zero_ov (a b : Int) (n k : Nat) (w : World) (ha : -1125899906842624 ≤ a ∧ a ≤ 1125899906842624) (hb : b = 0) (hn : k ≤ n) (hk : n ≤ 1000) (hc : 1125899906842624 < ch n k) :
    Calls Tryd.prog 4 #[.int .i64 a, .int .i64 b, .int .i64 n, .int .i64 k] w fun e w' => e = .returned (.bool true) ∧ Below w.heap.size w w' := by
  subst hb
  obtain ⟨G, hG⟩ : ∃ G : Int, (Int.gcd a 0 : Int) = G := ⟨_, rfl⟩
  have HG := Lib.hid hG; clear hG
  have HC := Lib.hid hc; clear hc
  go_enter Tryd.func4, Tryd.ntmps4
  go_wp2_with fail
  refine (awake_any _).mono ?_; rintro e w0 ⟨rfl, b0⟩
  go_wp2_with fail
  with_reducible refine (floor_range _ _ _ (Or.inr rfl)).mono ?_; rintro e w9 ⟨rfl, rfl⟩
  go_wp2_with fail
  with_reducible refine (gcd_at _ _ _ _ ha (by omega) HG.out).mono ?_; rintro e w1 ⟨rfl, c1⟩
  have b1 := below_then b0 c1
  clear c1
  go_wp2_with fail
  with_reducible refine (choose_ov n k _ hn hk HC.out).mono ?_; rintro e w9 ⟨rfl, rfl⟩
  go_wp2_with fail
  with_reducible refine (refIs_yes _ _ ha.1 ha.2).mono ?_; rintro e w9 ⟨rfl, rfl⟩
  go_wp2_with fail
  with_reducible refine (refIs_yes _ _ (by omega) (by omega)).mono ?_; rintro e w9 ⟨rfl, rfl⟩
  go_wp2_with fail
  with_reducible refine (refIs_yes _ _ ha.1 ha.2).mono ?_; rintro e w9 ⟨rfl, rfl⟩
  go_wp2_with fail
  with_reducible refine (refIs_yes _ _ (by omega) (by omega)).mono ?_; rintro e w9 ⟨rfl, rfl⟩
  go_wp2_with fail
  with_reducible refine (refGcd_at _ _ _ _ ha (by omega) HG.out).mono ?_; rintro e w2 ⟨rfl, c2⟩
  have b2 := below_then b1 c2
  clear c2
  go_wp2_with fail
  with_reducible refine (refChoose_over n k _ hn hk HC.out).mono ?_; rintro e w3 ⟨rfl, c3⟩
  have b3 := below_then b2 c3
  clear c3
  go_wp2_with fail
  go_ret
  exact ⟨rfl, b3⟩
set_option maxRecDepth 100000 in
set_option maxHeartbeats 1000000 in
theorem parts_val_r1 (a b : Int) (n k : Int) (w : World) (ha : -1125899906842624 ≤ a ∧ a ≤ 1125899906842624) (hb : -1125899906842624 ≤ b ∧ b ≤ 1125899906842624) (hb0 : b ≠ 0) (hr : n < 0) :
    Calls Tryd.prog 4 #[.int .i64 a, .int .i64 b, .int .i64 n, .int .i64 k] w fun e w' => e = .returned (.bool true) ∧ Below w.heap.size w w' := by
  obtain ⟨q, hq⟩ : ∃ q, a.fdiv b = q := ⟨_, rfl⟩
  have HQ := Lib.hid hq; clear hq
  obtain ⟨G, hG⟩ : ∃ G : Int, (Int.gcd a b : Int) = G := ⟨_, rfl⟩
  have HG := Lib.hid hG; clear hG
  go_enter Tryd.func4, Tryd.ntmps4
  go_wp2_with fail
  refine (awake_any _).mono ?_; rintro e w0 ⟨rfl, b0⟩
  go_wp2_with fail
  with_reducible refine (floor_at _ _ _ _ ha hb hb0 HQ.out).mono ?_; rintro e w1 ⟨rfl, c1⟩
  have b1 := below_then b0 c1
  clear c1
  go_wp2_with fail
  with_reducible refine (gcd_at _ _ _ _ ha hb HG.out).mono ?_; rintro e w2 ⟨rfl, c2⟩
  have b2 := below_then b1 c2
  clear c2
  go_wp2_with fail
  with_reducible refine (choose_range _ _ _ (Or.inl hr)).mono ?_; rintro e w9 ⟨rfl, rfl⟩
  go_wp2_with fail
  with_reducible refine (refIs_yes _ _ ha.1 ha.2).mono ?_; rintro e w9 ⟨rfl, rfl⟩
  go_wp2_with fail
  with_reducible refine (refIs_yes _ _ hb.1 hb.2).mono ?_; rintro e w9 ⟨rfl, rfl⟩
  go_wp2_with fail
  with_reducible refine (refFloor_at _ _ _ _ ha hb0 HQ.out).mono ?_; rintro e w3 ⟨rfl, c3⟩
  have b3 := below_then b2 c3
  clear c3
  go_wp2_with fail
  with_reducible refine (refIs_yes _ _ ha.1 ha.2).mono ?_; rintro e w9 ⟨rfl, rfl⟩
  go_wp2_with fail
  with_reducible refine (refIs_yes _ _ hb.1 hb.2).mono ?_; rintro e w9 ⟨rfl, rfl⟩
  go_wp2_with fail
  with_reducible refine (refGcd_at _ _ _ _ ha hb HG.out).mono ?_; rintro e w4 ⟨rfl, c4⟩
  have b4 := below_then b3 c4
  clear c4
  go_wp2_with fail
  go_ret
  exact ⟨rfl, b4⟩
set_option maxRecDepth 100000 in
set_option maxHeartbeats 1000000 in
theorem parts_val_r2 (a b : Int) (n k : Int) (w : World) (ha : -1125899906842624 ≤ a ∧ a ≤ 1125899906842624) (hb : -1125899906842624 ≤ b ∧ b ≤ 1125899906842624) (hb0 : b ≠ 0) (hr : 1000 < n) :
    Calls Tryd.prog 4 #[.int .i64 a, .int .i64 b, .int .i64 n, .int .i64 k] w fun e w' => e = .returned (.bool true) ∧ Below w.heap.size w w' := by
  obtain ⟨q, hq⟩ : ∃ q, a.fdiv b = q := ⟨_, rfl⟩
  have HQ := Lib.hid hq; clear hq
  obtain ⟨G, hG⟩ : ∃ G : Int, (Int.gcd a b : Int) = G := ⟨_, rfl⟩
  have HG := Lib.hid hG; clear hG
  have g1 : decide (n < 0) = false := decide_eq_false (by omega)
  have g2 : decide (1000 < n) = true := decide_eq_true hr
  go_enter Tryd.func4, Tryd.ntmps4
  go_wp2_with fail
  refine (awake_any _).mono ?_; rintro e w0 ⟨rfl, b0⟩
  go_wp2_with fail
  with_reducible refine (floor_at _ _ _ _ ha hb hb0 HQ.out).mono ?_; rintro e w1 ⟨rfl, c1⟩
  have b1 := below_then b0 c1
  clear c1
  go_wp2_with fail
  with_reducible refine (gcd_at _ _ _ _ ha hb HG.out).mono ?_; rintro e w2 ⟨rfl, c2⟩
  have b2 := below_then b1 c2
  clear c2
  go_wp2_with fail
  with_reducible refine (choose_range _ _ _ (Or.inr (Or.inl hr))).mono ?_; rintro e w9 ⟨rfl, rfl⟩
  go_wp2_with fail
  with_reducible refine (refIs_yes _ _ ha.1 ha.2).mono ?_; rintro e w9 ⟨rfl, rfl⟩
  go_wp2_with fail
  with_reducible refine (refIs_yes _ _ hb.1 hb.2).mono ?_; rintro e w9 ⟨rfl, rfl⟩
  go_wp2_with fail
  with_reducible refine (refFloor_at _ _ _ _ ha hb0 HQ.out).mono ?_; rintro e w3 ⟨rfl, c3⟩
  have b3 := below_then b2 c3
  clear c3
  go_wp2_with fail
  with_reducible refine (refIs_yes _ _ ha.1 ha.2).mono ?_; rintro e w9 ⟨rfl, rfl⟩
  go_wp2_with fail
  with_reducible refine (refIs_yes _ _ hb.1 hb.2).mono ?_; rintro e w9 ⟨rfl, rfl⟩
  go_wp2_with fail
  with_reducible refine (refGcd_at _ _ _ _ ha hb HG.out).mono ?_; rintro e w4 ⟨rfl, c4⟩
  have b4 := below_then b3 c4
  clear c4
  go_wp2_with fail
  go_ret
  exact ⟨rfl, b4⟩
set_option maxRecDepth 100000 in
set_option maxHeartbeats 1000000 in
theorem parts_val_r3 (a b : Int) (n k : Int) (w : World) (ha : -1125899906842624 ≤ a ∧ a ≤ 1125899906842624) (hb : -1125899906842624 ≤ b ∧ b ≤ 1125899906842624) (hb0 : b ≠ 0) (hn : 0 ≤ n ∧ n ≤ 1000) (hr : k < 0) :
    Calls Tryd.prog 4 #[.int .i64 a, .int .i64 b, .int .i64 n, .int .i64 k] w fun e w' => e = .returned (.bool true) ∧ Below w.heap.size w w' := by
  obtain ⟨q, hq⟩ : ∃ q, a.fdiv b = q := ⟨_, rfl⟩
  have HQ := Lib.hid hq; clear hq
  obtain ⟨G, hG⟩ : ∃ G : Int, (Int.gcd a b : Int) = G := ⟨_, rfl⟩
  have HG := Lib.hid hG; clear hG
  have g1 : decide (n < 0) = false := decide_eq_false (by omega)
  have g2 : decide (1000 < n) = false := decide_eq_false (by omega)
  have g3 : decide (k < 0) = true := decide_eq_true hr
  go_enter Tryd.func4, Tryd.ntmps4
  go_wp2_with fail
  refine (awake_any _).mono ?_; rintro e w0 ⟨rfl, b0⟩
  go_wp2_with fail
  with_reducible refine (floor_at _ _ _ _ ha hb hb0 HQ.out).mono ?_; rintro e w1 ⟨rfl, c1⟩
  have b1 := below_then b0 c1
  clear c1
  go_wp2_with fail
  with_reducible refine (gcd_at _ _ _ _ ha hb HG.out).mono ?_; rintro e w2 ⟨rfl, c2⟩
  have b2 := below_then b1 c2
  clear c2
  go_wp2_with fail
  with_reducible refine (choose_range _ _ _ (Or.inr (Or.inr (Or.inl hr)))).mono ?_; rintro e w9 ⟨rfl, rfl⟩
  go_wp2_with fail
  with_reducible refine (refIs_yes _ _ ha.1 ha.2).mono ?_; rintro e w9 ⟨rfl, rfl⟩
  go_wp2_with fail
  with_reducible refine (refIs_yes _ _ hb.1 hb.2).mono ?_; rintro e w9 ⟨rfl, rfl⟩
  go_wp2_with fail
  with_reducible refine (refFloor_at _ _ _ _ ha hb0 HQ.out).mono ?_; rintro e w3 ⟨rfl, c3⟩
  have b3 := below_then b2 c3
  clear c3
  go_wp2_with fail
  with_reducible refine (refIs_yes _ _ ha.1 ha.2).mono ?_; rintro e w9 ⟨rfl, rfl⟩
  go_wp2_with fail
  with_reducible refine (refIs_yes _ _ hb.1 hb.2).mono ?_; rintro e w9 ⟨rfl, rfl⟩
  go_wp2_with fail
  with_reducible refine (refGcd_at _ _ _ _ ha hb HG.out).mono ?_; rintro e w4 ⟨rfl, c4⟩
  have b4 := below_then b3 c4
  clear c4
  go_wp2_with fail
  go_ret
  exact ⟨rfl, b4⟩
set_option maxRecDepth 100000 in
set_option maxHeartbeats 1000000 in
theorem parts_val_r4 (a b : Int) (n k : Int) (w : World) (ha : -1125899906842624 ≤ a ∧ a ≤ 1125899906842624) (hb : -1125899906842624 ≤ b ∧ b ≤ 1125899906842624) (hb0 : b ≠ 0) (hn : 0 ≤ n ∧ n ≤ 1000) (hk : 0 ≤ k) (hr : n < k) :
    Calls Tryd.prog 4 #[.int .i64 a, .int .i64 b, .int .i64 n, .int .i64 k] w fun e w' => e = .returned (.bool true) ∧ Below w.heap.size w w' := by
  obtain ⟨q, hq⟩ : ∃ q, a.fdiv b = q := ⟨_, rfl⟩
  have HQ := Lib.hid hq; clear hq
  obtain ⟨G, hG⟩ : ∃ G : Int, (Int.gcd a b : Int) = G := ⟨_, rfl⟩
  have HG := Lib.hid hG; clear hG
  have g1 : decide (n < 0) = false := decide_eq_false (by omega)
  have g2 : decide (1000 < n) = false := decide_eq_false (by omega)
  have g3 : decide (k < 0) = false := decide_eq_false (by omega)
  have g4 : decide (n < k) = true := decide_eq_true hr
  go_enter Tryd.func4, Tryd.ntmps4
  go_wp2_with fail
  refine (awake_any _).mono ?_; rintro e w0 ⟨rfl, b0⟩
  go_wp2_with fail
  with_reducible refine (floor_at _ _ _ _ ha hb hb0 HQ.out).mono ?_; rintro e w1 ⟨rfl, c1⟩
  have b1 := below_then b0 c1
  clear c1
  go_wp2_with fail
  with_reducible refine (gcd_at _ _ _ _ ha hb HG.out).mono ?_; rintro e w2 ⟨rfl, c2⟩
  have b2 := below_then b1 c2
  clear c2
  go_wp2_with fail
  with_reducible refine (choose_range _ _ _ (Or.inr (Or.inr (Or.inr hr)))).mono ?_; rintro e w9 ⟨rfl, rfl⟩
  go_wp2_with fail
  with_reducible refine (refIs_yes _ _ ha.1 ha.2).mono ?_; rintro e w9 ⟨rfl, rfl⟩
  go_wp2_with fail
  with_reducible refine (refIs_yes _ _ hb.1 hb.2).mono ?_; rintro e w9 ⟨rfl, rfl⟩
  go_wp2_with fail
  with_reducible refine (refFloor_at _ _ _ _ ha hb0 HQ.out).mono ?_; rintro e w3 ⟨rfl, c3⟩
  have b3 := below_then b2 c3
  clear c3
  go_wp2_with fail
  with_reducible refine (refIs_yes _ _ ha.1 ha.2).mono ?_; rintro e w9 ⟨rfl, rfl⟩
  go_wp2_with fail
  with_reducible refine (refIs_yes _ _ hb.1 hb.2).mono ?_; rintro e w9 ⟨rfl, rfl⟩
  go_wp2_with fail
  with_reducible refine (refGcd_at _ _ _ _ ha hb HG.out).mono ?_; rintro e w4 ⟨rfl, c4⟩
  have b4 := below_then b3 c4
  clear c4
  go_wp2_with fail
  go_ret
  exact ⟨rfl, b4⟩
set_option maxRecDepth 100000 in
set_option maxHeartbeats 1000000 in
theorem parts_val_ok (a b : Int) (n k : Nat) (w : World) (ha : -1125899906842624 ≤ a ∧ a ≤ 1125899906842624) (hb : -1125899906842624 ≤ b ∧ b ≤ 1125899906842624) (hb0 : b ≠ 0) (hn : k ≤ n) (hk : n ≤ 1000) (hc : ch n k ≤ 1125899906842624) :
    Calls Tryd.prog 4 #[.int .i64 a, .int .i64 b, .int .i64 n, .int .i64 k] w fun e w' => e = .returned (.bool true) ∧ Below w.heap.size w w' := by
  obtain ⟨q, hq⟩ : ∃ q, a.fdiv b = q := ⟨_, rfl⟩
  have HQ := Lib.hid hq; clear hq
  obtain ⟨G, hG⟩ : ∃ G : Int, (Int.gcd a b : Int) = G := ⟨_, rfl⟩
  have HG := Lib.hid hG; clear hG
  obtain ⟨c, hcc⟩ : ∃ c : Int, (ch n k : Int) = c := ⟨_, rfl⟩
  have hcM : c ≤ 1125899906842624 := by omega
  have HCC := Lib.hid hcc; clear hcc
  have HC := Lib.hid hc; clear hc
  go_enter Tryd.func4, Tryd.ntmps4
  go_wp2_with fail
  refine (awake_any _).mono ?_; rintro e w0 ⟨rfl, b0⟩
  go_wp2_with fail
  with_reducible refine (floor_at _ _ _ _ ha hb hb0 HQ.out).mono ?_; rintro e w1 ⟨rfl, c1⟩
  have b1 := below_then b0 c1
  clear c1
  go_wp2_with fail
  with_reducible refine (gcd_at _ _ _ _ ha hb HG.out).mono ?_; rintro e w2 ⟨rfl, c2⟩
  have b2 := below_then b1 c2
  clear c2
  go_wp2_with fail
  with_reducible refine (choose_at n k _ _ c _ rfl rfl hn hk HCC.out hcM).mono ?_; rintro e w9 ⟨rfl, rfl⟩
  go_wp2_with fail
  with_reducible refine (refIs_yes _ _ ha.1 ha.2).mono ?_; rintro e w9 ⟨rfl, rfl⟩
  go_wp2_with fail
  with_reducible refine (refIs_yes _ _ hb.1 hb.2).mono ?_; rintro e w9 ⟨rfl, rfl⟩
  go_wp2_with fail
  with_reducible refine (refFloor_at _ _ _ _ ha hb0 HQ.out).mono ?_; rintro e w3 ⟨rfl, c3⟩
  have b3 := below_then b2 c3
  clear c3
  go_wp2_with fail
  with_reducible refine (refIs_yes _ _ ha.1 ha.2).mono ?_; rintro e w9 ⟨rfl, rfl⟩
  go_wp2_with fail
  with_reducible refine (refIs_yes _ _ hb.1 hb.2).mono ?_; rintro e w9 ⟨rfl, rfl⟩
  go_wp2_with fail
  with_reducible refine (refGcd_at _ _ _ _ ha hb HG.out).mono ?_; rintro e w4 ⟨rfl, c4⟩
  have b4 := below_then b3 c4
  clear c4
  go_wp2_with fail
  with_reducible refine (refChoose_at n k c _ hn hk HC.out HCC.out).mono ?_; rintro e w5 ⟨rfl, c5⟩
  have b5 := below_then b4 c5
  clear c5
  go_wp2_with fail
  go_ret
  exact ⟨rfl, b5⟩
set_option maxRecDepth 100000 in
set_option maxHeartbeats 1000000 in
theorem parts_val_ov (a b : Int) (n k : Nat) (w : World) (ha : -1125899906842624 ≤ a ∧ a ≤ 1125899906842624) (hb : -1125899906842624 ≤ b ∧ b ≤ 1125899906842624) (hb0 : b ≠ 0) (hn : k ≤ n) (hk : n ≤ 1000) (hc : 1125899906842624 < ch n k) :
    Calls Tryd.prog 4 #[.int .i64 a, .int .i64 b, .int .i64 n, .int .i64 k] w fun e w' => e = .returned (.bool true) ∧ Below w.heap.size w w' := by
  obtain ⟨q, hq⟩ : ∃ q, a.fdiv b = q := ⟨_, rfl⟩
  have HQ := Lib.hid hq; clear hq
  obtain ⟨G, hG⟩ : ∃ G : Int, (Int.gcd a b : Int) = G := ⟨_, rfl⟩
  have HG := Lib.hid hG; clear hG
  have HC := Lib.hid hc; clear hc
  go_enter Tryd.func4, Tryd.ntmps4
  go_wp2_with fail
  refine (awake_any _).mono ?_; rintro e w0 ⟨rfl, b0⟩
  go_wp2_with fail
  with_reducible refine (floor_at _ _ _ _ ha hb hb0 HQ.out).mono ?_; rintro e w1 ⟨rfl, c1⟩
  have b1 := below_then b0 c1
  clear c1
  go_wp2_with fail
  with_reducible refine (gcd_at _ _ _ _ ha hb HG.out).mono ?_; rintro e w2 ⟨rfl, c2⟩
  have b2 := below_then b1 c2
  clear c2
  go_wp2_with fail
  with_reducible refine (choose_ov n k _ hn hk HC.out).mono ?_; rintro e w9 ⟨rfl, rfl⟩
  go_wp2_with fail
  with_reducible refine (refIs_yes _ _ ha.1 ha.2).mono ?_; rintro e w9 ⟨rfl, rfl⟩
  go_wp2_with fail
  with_reducible refine (refIs_yes _ _ hb.1 hb.2).mono ?_; rintro e w9 ⟨rfl, rfl⟩
  go_wp2_with fail
  with_reducible refine (refFloor_at _ _ _ _ ha hb0 HQ.out).mono ?_; rintro e w3 ⟨rfl, c3⟩
  have b3 := below_then b2 c3
  clear c3
  go_wp2_with fail
  with_reducible refine (refIs_yes _ _ ha.1 ha.2).mono ?_; rintro e w9 ⟨rfl, rfl⟩
  go_wp2_with fail
  with_reducible refine (refIs_yes _ _ hb.1 hb.2).mono ?_; rintro e w9 ⟨rfl, rfl⟩
  go_wp2_with fail
  with_reducible refine (refGcd_at _ _ _ _ ha hb HG.out).mono ?_; rintro e w4 ⟨rfl, c4⟩
  have b4 := below_then b3 c4
  clear c4
  go_wp2_with fail
  with_reducible refine (refChoose_over n k _ hn hk HC.out).mono ?_; rintro e w5 ⟨rfl, c5⟩
  have b5 := below_then b4 c5
  clear c5
  go_wp2_with fail
  go_ret
  exact ⟨rfl, b5⟩
theorem parts_inv1 (a b n k : Int) (w : World) (h : a < -1125899906842624 ∨ 1125899906842624 < a) :
    Calls Tryd.prog 4 #[.int .i64 a, .int .i64 b, .int .i64 n, .int .i64 k] w fun e w' => e = .returned (.bool true) ∧ Below w.heap.size w w' := by
  by_cases g1 : n < 0
  · exact parts_inv1_r1 a b n k w h g1
  by_cases g2 : 1000 < n
  · exact parts_inv1_r2 a b n k w h g2
  by_cases g3 : k < 0
  · exact parts_inv1_r3 a b n k w h (by omega) g3
  by_cases g4 : n < k
  · exact parts_inv1_r4 a b n k w h (by omega) (by omega) g4
  obtain ⟨N, rfl⟩ : ∃ N : Nat, n = N := ⟨n.toNat, by omega⟩
  obtain ⟨K, rfl⟩ : ∃ K : Nat, k = K := ⟨k.toNat, by omega⟩
  by_cases g5 : ch N K ≤ 1125899906842624
  · exact parts_inv1_ok a b N K w h (by omega) (by omega) g5
  · exact parts_inv1_ov a b N K w h (by omega) (by omega) (by omega)
theorem parts_inv2 (a b n k : Int) (w : World) (ha : -1125899906842624 ≤ a ∧ a ≤ 1125899906842624) (h : b < -1125899906842624 ∨ 1125899906842624 < b) :
    Calls Tryd.prog 4 #[.int .i64 a, .int .i64 b, .int .i64 n, .int .i64 k] w fun e w' => e = .returned (.bool true) ∧ Below w.heap.size w w' := by
  by_cases g1 : n < 0
  · exact parts_inv2_r1 a b n k w ha h g1
  by_cases g2 : 1000 < n
  · exact parts_inv2_r2 a b n k w ha h g2
  by_cases g3 : k < 0
  · exact parts_inv2_r3 a b n k w ha h (by omega) g3
  by_cases g4 : n < k
  · exact parts_inv2_r4 a b n k w ha h (by omega) (by omega) g4
  obtain ⟨N, rfl⟩ : ∃ N : Nat, n = N := ⟨n.toNat, by omega⟩
  obtain ⟨K, rfl⟩ : ∃ K : Nat, k = K := ⟨k.toNat, by omega⟩
  by_cases g5 : ch N K ≤ 1125899906842624
  · exact parts_inv2_ok a b N K w ha h (by omega) (by omega) g5
  · exact parts_inv2_ov a b N K w ha h (by omega) (by omega) (by omega)
theorem parts_zero (a b n k : Int) (w : World) (ha : -1125899906842624 ≤ a ∧ a ≤ 1125899906842624) (hb : b = 0) :
    Calls Tryd.prog 4 #[.int .i64 a, .int .i64 b, .int .i64 n, .int .i64 k] w fun e w' => e = .returned (.bool true) ∧ Below w.heap.size w w' := by
  by_cases g1 : n < 0
  · exact parts_zero_r1 a b n k w ha hb g1
  by_cases g2 : 1000 < n
  · exact parts_zero_r2 a b n k w ha hb g2
  by_cases g3 : k < 0
  · exact parts_zero_r3 a b n k w ha hb (by omega) g3
  by_cases g4 : n < k
  · exact parts_zero_r4 a b n k w ha hb (by omega) (by omega) g4
  obtain ⟨N, rfl⟩ : ∃ N : Nat, n = N := ⟨n.toNat, by omega⟩
  obtain ⟨K, rfl⟩ : ∃ K : Nat, k = K := ⟨k.toNat, by omega⟩
  by_cases g5 : ch N K ≤ 1125899906842624
  · exact parts_zero_ok a b N K w ha hb (by omega) (by omega) g5
  · exact parts_zero_ov a b N K w ha hb (by omega) (by omega) (by omega)
theorem parts_val (a b n k : Int) (w : World) (ha : -1125899906842624 ≤ a ∧ a ≤ 1125899906842624) (hb : -1125899906842624 ≤ b ∧ b ≤ 1125899906842624) (hb0 : b ≠ 0) :
    Calls Tryd.prog 4 #[.int .i64 a, .int .i64 b, .int .i64 n, .int .i64 k] w fun e w' => e = .returned (.bool true) ∧ Below w.heap.size w w' := by
  by_cases g1 : n < 0
  · exact parts_val_r1 a b n k w ha hb hb0 g1
  by_cases g2 : 1000 < n
  · exact parts_val_r2 a b n k w ha hb hb0 g2
  by_cases g3 : k < 0
  · exact parts_val_r3 a b n k w ha hb hb0 (by omega) g3
  by_cases g4 : n < k
  · exact parts_val_r4 a b n k w ha hb hb0 (by omega) (by omega) g4
  obtain ⟨N, rfl⟩ : ∃ N : Nat, n = N := ⟨n.toNat, by omega⟩
  obtain ⟨K, rfl⟩ : ∃ K : Nat, k = K := ⟨k.toNat, by omega⟩
  by_cases g5 : ch N K ≤ 1125899906842624
  · exact parts_val_ok a b N K w ha hb hb0 (by omega) (by omega) g5
  · exact parts_val_ov a b N K w ha hb hb0 (by omega) (by omega) (by omega)
theorem parts_any (a b n k : Int) (w : World) :
    Calls Tryd.prog 4 #[.int .i64 a, .int .i64 b, .int .i64 n, .int .i64 k] w fun e w' => e = .returned (.bool true) ∧ Below w.heap.size w w' := by
  by_cases ha : -1125899906842624 ≤ a ∧ a ≤ 1125899906842624
  · by_cases hb0 : b = 0
    · exact parts_zero a b n k w ha hb0
    · by_cases hb : -1125899906842624 ≤ b ∧ b ≤ 1125899906842624
      · exact parts_val a b n k w ha hb hb0
      · exact parts_inv2 a b n k w ha (by omega)
  · exact parts_inv1 a b n k w (by omega)
end Go.Proofs.YtcgmbgamhlfpcaaDoor
