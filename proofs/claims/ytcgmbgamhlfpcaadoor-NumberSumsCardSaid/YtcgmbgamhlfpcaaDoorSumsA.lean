/- NumberSums: the law's own text, walked, first part. -/
import Derived.Test.YtcgmbgamhlfpcaaDoorSumsWalk
namespace Go.Proofs.YtcgmbgamhlfpcaaDoor
open Go.RowKit
set_option maxRecDepth 100000 in
set_option maxHeartbeats 1000000 in
theorem sums_inv1_nil (a b : Int) (v : Option Addr) (cap : Nat) (w : World) (h : a < -1125899906842624 ∨ 1125899906842624 < a)  :
    Calls Tryd.prog 3 #[.int .i64 a, .int .i64 b, .slice v 0 cap] w fun e w' => e = .returned (.bool true) ∧ Below w.heap.size w w' := by
  have H := Lib.hid h; clear h
  go_enter Tryd.func3, Tryd.ntmps3
  go_wp2_with fail
  refine (awake_any _).mono ?_; rintro e w1 ⟨rfl, b1⟩
  go_wp2_with fail
  with_reducible refine (add_range _ _ _ (Or.inl H.out)).mono ?_; rintro e w2 ⟨rfl, rfl⟩
  go_wp2_with fail
  with_reducible refine (mul_range _ _ _ (Or.inl H.out)).mono ?_; rintro e w2 ⟨rfl, rfl⟩
  go_wp2_with fail
  with_reducible refine (refIs_no _ _ H.out).mono ?_; rintro e w2 ⟨rfl, rfl⟩
  go_wp2_with fail
  with_reducible refine (sum_nil _ _ _).mono ?_; rintro e w2 ⟨rfl, rfl⟩
  go_wp2_with fail
  go_loop [17, 133] (fun s i => s = .int .i64 0 ∧ i = .int .i64 0) (fun _ _ => 0)
  case atStart => exact ⟨rfl, rfl⟩
  case round =>
    obtain ⟨rfl, rfl⟩ := hrel
    go_wp2_with fail
    refine (refIs_yes _ _ (by omega) (by omega)).mono ?_; rintro e w' ⟨rfl, rfl⟩
    go_wp2_with fail
    go_ret
    exact ⟨rfl, b1⟩
set_option maxRecDepth 100000 in
set_option maxHeartbeats 1000000 in
theorem sums_inv1_full (a b : Int) (v : Option Addr) (len cap : Nat) (w : World) (h : a < -1125899906842624 ∨ 1125899906842624 < a) (hl : 1000 < len) (hl2 : len ≤ 1100) :
    Calls Tryd.prog 3 #[.int .i64 a, .int .i64 b, .slice v len cap] w fun e w' => e = .returned (.bool true) ∧ Below w.heap.size w w' := by
  have H := Lib.hid h; clear h
  go_enter Tryd.func3, Tryd.ntmps3
  go_wp2_with fail
  refine (awake_any _).mono ?_; rintro e w1 ⟨rfl, b1⟩
  go_wp2_with fail
  with_reducible refine (add_range _ _ _ (Or.inl H.out)).mono ?_; rintro e w2 ⟨rfl, rfl⟩
  go_wp2_with fail
  with_reducible refine (mul_range _ _ _ (Or.inl H.out)).mono ?_; rintro e w2 ⟨rfl, rfl⟩
  go_wp2_with fail
  with_reducible refine (refIs_no _ _ H.out).mono ?_; rintro e w2 ⟨rfl, rfl⟩
  go_wp2_with fail
  with_reducible refine (sum_full _ _ _ _ hl (by omega)).mono ?_; rintro e w2 ⟨rfl, rfl⟩
  go_wp2_with fail
  go_ret
  exact ⟨rfl, b1⟩
set_option maxRecDepth 100000 in
set_option maxHeartbeats 1000000 in
theorem sums_inv1_ok (a b : Int) (bl off len cap : Nat) (z : Nat → Int) (w : World) (h : a < -1125899906842624 ∨ 1125899906842624 < a) (hl : len ≤ 100) (hc : Cells w bl off len z) (hbl : bl < w.heap.size) (hz : ∀ i, i < len → -1125899906842624 ≤ z i ∧ z i ≤ 1125899906842624) (h0 : -1125899906842624 ≤ psum z len) (h1 : psum z len ≤ 1125899906842624) :
    Calls Tryd.prog 3 #[.int .i64 a, .int .i64 b, .slice (some ⟨bl, off, none⟩) len cap] w fun e w' => e = .returned (.bool true) ∧ Below w.heap.size w w' := by
  have H := Lib.hid h; clear h
  have HC := Lib.hid hc; clear hc
  have HZ := Lib.hid hz; clear hz
  go_enter Tryd.func3, Tryd.ntmps3
  go_wp2_with fail
  refine (awake_any _).mono ?_; rintro e w1 ⟨rfl, b1⟩
  have HC := Lib.hid (cells_below b1 hbl HC.out)
  go_wp2_with fail
  with_reducible refine (add_range _ _ _ (Or.inl H.out)).mono ?_; rintro e w2 ⟨rfl, rfl⟩
  go_wp2_with fail
  with_reducible refine (mul_range _ _ _ (Or.inl H.out)).mono ?_; rintro e w2 ⟨rfl, rfl⟩
  go_wp2_with fail
  with_reducible refine (refIs_no _ _ H.out).mono ?_; rintro e w2 ⟨rfl, rfl⟩
  go_wp2_with fail
  with_reducible refine (sum_ok _ _ _ _ z _ (by omega) HC.out HZ.out h0 h1).mono ?_; rintro e w2 ⟨rfl, rfl⟩
  go_wp2_with fail
  go_loop [17, 133] (fun s i => ∃ j : Nat, j ≤ len ∧ s = .int .i64 (psum z j) ∧ i = .int .i64 j) (fun _ i => len - (intOf i).toNat)
  case atStart => exact ⟨0, by omega, rfl, rfl⟩
  case round =>
    obtain ⟨j, hj, rfl, rfl⟩ := hrel
    by_cases hlt : j < len
    · have hcell := HC.out j hlt
      have hz := HZ.out j hlt
      obtain ⟨hz1, hz2⟩ := hz
      obtain ⟨hp1, hp2⟩ := psum_bd z len j HZ.out hj
      go_wp2_with fail
      refine (refIs_yes _ _ hz1 hz2).mono ?_; rintro e w' ⟨rfl, rfl⟩
      go_wp2_with fail
      go_round
      case rel => exact ⟨j + 1, by omega, rfl, by go_num⟩
      case measure => simp [intOf]; omega
    · obtain rfl : j = len := by omega
      go_wp2_with fail
      refine (refIs_yes _ _ h0 h1).mono ?_; rintro e w' ⟨rfl, rfl⟩
      go_wp2_with fail
      go_ret
      exact ⟨rfl, b1⟩
set_option maxRecDepth 100000 in
set_option maxHeartbeats 1000000 in
theorem sums_inv1_big (a b : Int) (bl off len cap : Nat) (z : Nat → Int) (w : World) (h : a < -1125899906842624 ∨ 1125899906842624 < a) (hl : len ≤ 100) (hc : Cells w bl off len z) (hbl : bl < w.heap.size) (hz : ∀ i, i < len → -1125899906842624 ≤ z i ∧ z i ≤ 1125899906842624) (hx : psum z len < -1125899906842624 ∨ 1125899906842624 < psum z len) :
    Calls Tryd.prog 3 #[.int .i64 a, .int .i64 b, .slice (some ⟨bl, off, none⟩) len cap] w fun e w' => e = .returned (.bool true) ∧ Below w.heap.size w w' := by
  have H := Lib.hid h; clear h
  have HC := Lib.hid hc; clear hc
  have HZ := Lib.hid hz; clear hz
  have HX := Lib.hid hx; clear hx
  go_enter Tryd.func3, Tryd.ntmps3
  go_wp2_with fail
  refine (awake_any _).mono ?_; rintro e w1 ⟨rfl, b1⟩
  have HC := Lib.hid (cells_below b1 hbl HC.out)
  go_wp2_with fail
  with_reducible refine (add_range _ _ _ (Or.inl H.out)).mono ?_; rintro e w2 ⟨rfl, rfl⟩
  go_wp2_with fail
  with_reducible refine (mul_range _ _ _ (Or.inl H.out)).mono ?_; rintro e w2 ⟨rfl, rfl⟩
  go_wp2_with fail
  with_reducible refine (refIs_no _ _ H.out).mono ?_; rintro e w2 ⟨rfl, rfl⟩
  go_wp2_with fail
  with_reducible refine (sum_big _ _ _ _ z _ (by omega) HC.out HZ.out HX.out).mono ?_; rintro e w2 ⟨rfl, rfl⟩
  go_wp2_with fail
  go_loop [17, 133] (fun s i => ∃ j : Nat, j ≤ len ∧ s = .int .i64 (psum z j) ∧ i = .int .i64 j) (fun _ i => len - (intOf i).toNat)
  case atStart => exact ⟨0, by omega, rfl, rfl⟩
  case round =>
    obtain ⟨j, hj, rfl, rfl⟩ := hrel
    by_cases hlt : j < len
    · have hcell := HC.out j hlt
      have hz := HZ.out j hlt
      obtain ⟨hz1, hz2⟩ := hz
      obtain ⟨hp1, hp2⟩ := psum_bd z len j HZ.out hj
      go_wp2_with fail
      refine (refIs_yes _ _ hz1 hz2).mono ?_; rintro e w' ⟨rfl, rfl⟩
      go_wp2_with fail
      go_round
      case rel => exact ⟨j + 1, by omega, rfl, by go_num⟩
      case measure => simp [intOf]; omega
    · obtain rfl : j = len := by omega
      go_wp2_with fail
      refine (refIs_no _ _ HX.out).mono ?_; rintro e w' ⟨rfl, rfl⟩
      go_wp2_with fail
      go_ret
      exact ⟨rfl, b1⟩
set_option maxRecDepth 100000 in
set_option maxHeartbeats 1000000 in
theorem sums_inv1_bad (a b : Int) (bl off len cap J : Nat) (z : Nat → Int) (w : World) (h : a < -1125899906842624 ∨ 1125899906842624 < a) (hl : len ≤ 100) (hc : Cells w bl off len z) (hbl : bl < w.heap.size) (hJ : J < len) (hx : z J < -1125899906842624 ∨ 1125899906842624 < z J) (hz : ∀ i, i < J → -1125899906842624 ≤ z i ∧ z i ≤ 1125899906842624) :
    Calls Tryd.prog 3 #[.int .i64 a, .int .i64 b, .slice (some ⟨bl, off, none⟩) len cap] w fun e w' => e = .returned (.bool true) ∧ Below w.heap.size w w' := by
  have H := Lib.hid h; clear h
  have HC := Lib.hid hc; clear hc
  have HZ := Lib.hid hz; clear hz
  have HX := Lib.hid hx; clear hx
  go_enter Tryd.func3, Tryd.ntmps3
  go_wp2_with fail
  refine (awake_any _).mono ?_; rintro e w1 ⟨rfl, b1⟩
  have HC := Lib.hid (cells_below b1 hbl HC.out)
  go_wp2_with fail
  with_reducible refine (add_range _ _ _ (Or.inl H.out)).mono ?_; rintro e w2 ⟨rfl, rfl⟩
  go_wp2_with fail
  with_reducible refine (mul_range _ _ _ (Or.inl H.out)).mono ?_; rintro e w2 ⟨rfl, rfl⟩
  go_wp2_with fail
  with_reducible refine (refIs_no _ _ H.out).mono ?_; rintro e w2 ⟨rfl, rfl⟩
  go_wp2_with fail
  with_reducible refine (sum_bad _ _ _ _ J z _ (by omega) HC.out hJ HX.out HZ.out).mono ?_; rintro e w2 ⟨rfl, rfl⟩
  go_wp2_with fail
  go_loop [17, 133] (fun s i => ∃ j : Nat, j ≤ J ∧ s = .int .i64 (psum z j) ∧ i = .int .i64 j) (fun _ i => len - (intOf i).toNat)
  case atStart => exact ⟨0, by omega, rfl, rfl⟩
  case round =>
    obtain ⟨j, hj, rfl, rfl⟩ := hrel
    have hlt : j < len := by omega
    have hcell := HC.out j hlt
    by_cases he : j < J
    · have hz := HZ.out j he
      obtain ⟨hz1, hz2⟩ := hz
      obtain ⟨hp1, hp2⟩ := psum_bd z J j HZ.out hj
      go_wp2_with fail
      refine (refIs_yes _ _ hz1 hz2).mono ?_; rintro e w' ⟨rfl, rfl⟩
      go_wp2_with fail
      go_round
      case rel => exact ⟨j + 1, by omega, rfl, by go_num⟩
      case measure => simp [intOf]; omega
    · obtain rfl : j = J := by omega
      go_wp2_with fail
      refine (refIs_no _ _ HX.out).mono ?_; rintro e w' ⟨rfl, rfl⟩
      go_wp2_with fail
      go_ret
      exact ⟨rfl, b1⟩
set_option maxRecDepth 100000 in
set_option maxHeartbeats 1000000 in
theorem sums_inv2_nil (a b : Int) (v : Option Addr) (cap : Nat) (w : World) (ha : -1125899906842624 ≤ a ∧ a ≤ 1125899906842624) (h : b < -1125899906842624 ∨ 1125899906842624 < b)  :
    Calls Tryd.prog 3 #[.int .i64 a, .int .i64 b, .slice v 0 cap] w fun e w' => e = .returned (.bool true) ∧ Below w.heap.size w w' := by
  have H := Lib.hid h; clear h
  go_enter Tryd.func3, Tryd.ntmps3
  go_wp2_with fail
  refine (awake_any _).mono ?_; rintro e w1 ⟨rfl, b1⟩
  go_wp2_with fail
  with_reducible refine (add_range _ _ _ (Or.inr H.out)).mono ?_; rintro e w2 ⟨rfl, rfl⟩
  go_wp2_with fail
  with_reducible refine (mul_range _ _ _ (Or.inr H.out)).mono ?_; rintro e w2 ⟨rfl, rfl⟩
  go_wp2_with fail
  with_reducible refine (refIs_yes _ _ ha.1 ha.2).mono ?_; rintro e w2 ⟨rfl, rfl⟩
  go_wp2_with fail
  with_reducible refine (refIs_no _ _ H.out).mono ?_; rintro e w2 ⟨rfl, rfl⟩
  go_wp2_with fail
  with_reducible refine (sum_nil _ _ _).mono ?_; rintro e w2 ⟨rfl, rfl⟩
  go_wp2_with fail
  go_loop [17, 133] (fun s i => s = .int .i64 0 ∧ i = .int .i64 0) (fun _ _ => 0)
  case atStart => exact ⟨rfl, rfl⟩
  case round =>
    obtain ⟨rfl, rfl⟩ := hrel
    go_wp2_with fail
    refine (refIs_yes _ _ (by omega) (by omega)).mono ?_; rintro e w' ⟨rfl, rfl⟩
    go_wp2_with fail
    go_ret
    exact ⟨rfl, b1⟩
set_option maxRecDepth 100000 in
set_option maxHeartbeats 1000000 in
theorem sums_inv2_full (a b : Int) (v : Option Addr) (len cap : Nat) (w : World) (ha : -1125899906842624 ≤ a ∧ a ≤ 1125899906842624) (h : b < -1125899906842624 ∨ 1125899906842624 < b) (hl : 1000 < len) (hl2 : len ≤ 1100) :
    Calls Tryd.prog 3 #[.int .i64 a, .int .i64 b, .slice v len cap] w fun e w' => e = .returned (.bool true) ∧ Below w.heap.size w w' := by
  have H := Lib.hid h; clear h
  go_enter Tryd.func3, Tryd.ntmps3
  go_wp2_with fail
  refine (awake_any _).mono ?_; rintro e w1 ⟨rfl, b1⟩
  go_wp2_with fail
  with_reducible refine (add_range _ _ _ (Or.inr H.out)).mono ?_; rintro e w2 ⟨rfl, rfl⟩
  go_wp2_with fail
  with_reducible refine (mul_range _ _ _ (Or.inr H.out)).mono ?_; rintro e w2 ⟨rfl, rfl⟩
  go_wp2_with fail
  with_reducible refine (refIs_yes _ _ ha.1 ha.2).mono ?_; rintro e w2 ⟨rfl, rfl⟩
  go_wp2_with fail
  with_reducible refine (refIs_no _ _ H.out).mono ?_; rintro e w2 ⟨rfl, rfl⟩
  go_wp2_with fail
  with_reducible refine (sum_full _ _ _ _ hl (by omega)).mono ?_; rintro e w2 ⟨rfl, rfl⟩
  go_wp2_with fail
  go_ret
  exact ⟨rfl, b1⟩
set_option maxRecDepth 100000 in
set_option maxHeartbeats 1000000 in
theorem sums_inv2_ok (a b : Int) (bl off len cap : Nat) (z : Nat → Int) (w : World) (ha : -1125899906842624 ≤ a ∧ a ≤ 1125899906842624) (h : b < -1125899906842624 ∨ 1125899906842624 < b) (hl : len ≤ 100) (hc : Cells w bl off len z) (hbl : bl < w.heap.size) (hz : ∀ i, i < len → -1125899906842624 ≤ z i ∧ z i ≤ 1125899906842624) (h0 : -1125899906842624 ≤ psum z len) (h1 : psum z len ≤ 1125899906842624) :
    Calls Tryd.prog 3 #[.int .i64 a, .int .i64 b, .slice (some ⟨bl, off, none⟩) len cap] w fun e w' => e = .returned (.bool true) ∧ Below w.heap.size w w' := by
  have H := Lib.hid h; clear h
  have HC := Lib.hid hc; clear hc
  have HZ := Lib.hid hz; clear hz
  go_enter Tryd.func3, Tryd.ntmps3
  go_wp2_with fail
  refine (awake_any _).mono ?_; rintro e w1 ⟨rfl, b1⟩
  have HC := Lib.hid (cells_below b1 hbl HC.out)
  go_wp2_with fail
  with_reducible refine (add_range _ _ _ (Or.inr H.out)).mono ?_; rintro e w2 ⟨rfl, rfl⟩
  go_wp2_with fail
  with_reducible refine (mul_range _ _ _ (Or.inr H.out)).mono ?_; rintro e w2 ⟨rfl, rfl⟩
  go_wp2_with fail
  with_reducible refine (refIs_yes _ _ ha.1 ha.2).mono ?_; rintro e w2 ⟨rfl, rfl⟩
  go_wp2_with fail
  with_reducible refine (refIs_no _ _ H.out).mono ?_; rintro e w2 ⟨rfl, rfl⟩
  go_wp2_with fail
  with_reducible refine (sum_ok _ _ _ _ z _ (by omega) HC.out HZ.out h0 h1).mono ?_; rintro e w2 ⟨rfl, rfl⟩
  go_wp2_with fail
  go_loop [17, 133] (fun s i => ∃ j : Nat, j ≤ len ∧ s = .int .i64 (psum z j) ∧ i = .int .i64 j) (fun _ i => len - (intOf i).toNat)
  case atStart => exact ⟨0, by omega, rfl, rfl⟩
  case round =>
    obtain ⟨j, hj, rfl, rfl⟩ := hrel
    by_cases hlt : j < len
    · have hcell := HC.out j hlt
      have hz := HZ.out j hlt
      obtain ⟨hz1, hz2⟩ := hz
      obtain ⟨hp1, hp2⟩ := psum_bd z len j HZ.out hj
      go_wp2_with fail
      refine (refIs_yes _ _ hz1 hz2).mono ?_; rintro e w' ⟨rfl, rfl⟩
      go_wp2_with fail
      go_round
      case rel => exact ⟨j + 1, by omega, rfl, by go_num⟩
      case measure => simp [intOf]; omega
    · obtain rfl : j = len := by omega
      go_wp2_with fail
      refine (refIs_yes _ _ h0 h1).mono ?_; rintro e w' ⟨rfl, rfl⟩
      go_wp2_with fail
      go_ret
      exact ⟨rfl, b1⟩
set_option maxRecDepth 100000 in
set_option maxHeartbeats 1000000 in
theorem sums_inv2_big (a b : Int) (bl off len cap : Nat) (z : Nat → Int) (w : World) (ha : -1125899906842624 ≤ a ∧ a ≤ 1125899906842624) (h : b < -1125899906842624 ∨ 1125899906842624 < b) (hl : len ≤ 100) (hc : Cells w bl off len z) (hbl : bl < w.heap.size) (hz : ∀ i, i < len → -1125899906842624 ≤ z i ∧ z i ≤ 1125899906842624) (hx : psum z len < -1125899906842624 ∨ 1125899906842624 < psum z len) :
    Calls Tryd.prog 3 #[.int .i64 a, .int .i64 b, .slice (some ⟨bl, off, none⟩) len cap] w fun e w' => e = .returned (.bool true) ∧ Below w.heap.size w w' := by
  have H := Lib.hid h; clear h
  have HC := Lib.hid hc; clear hc
  have HZ := Lib.hid hz; clear hz
  have HX := Lib.hid hx; clear hx
  go_enter Tryd.func3, Tryd.ntmps3
  go_wp2_with fail
  refine (awake_any _).mono ?_; rintro e w1 ⟨rfl, b1⟩
  have HC := Lib.hid (cells_below b1 hbl HC.out)
  go_wp2_with fail
  with_reducible refine (add_range _ _ _ (Or.inr H.out)).mono ?_; rintro e w2 ⟨rfl, rfl⟩
  go_wp2_with fail
  with_reducible refine (mul_range _ _ _ (Or.inr H.out)).mono ?_; rintro e w2 ⟨rfl, rfl⟩
  go_wp2_with fail
  with_reducible refine (refIs_yes _ _ ha.1 ha.2).mono ?_; rintro e w2 ⟨rfl, rfl⟩
  go_wp2_with fail
  with_reducible refine (refIs_no _ _ H.out).mono ?_; rintro e w2 ⟨rfl, rfl⟩
  go_wp2_with fail
  with_reducible refine (sum_big _ _ _ _ z _ (by omega) HC.out HZ.out HX.out).mono ?_; rintro e w2 ⟨rfl, rfl⟩
  go_wp2_with fail
  go_loop [17, 133] (fun s i => ∃ j : Nat, j ≤ len ∧ s = .int .i64 (psum z j) ∧ i = .int .i64 j) (fun _ i => len - (intOf i).toNat)
  case atStart => exact ⟨0, by omega, rfl, rfl⟩
  case round =>
    obtain ⟨j, hj, rfl, rfl⟩ := hrel
    by_cases hlt : j < len
    · have hcell := HC.out j hlt
      have hz := HZ.out j hlt
      obtain ⟨hz1, hz2⟩ := hz
      obtain ⟨hp1, hp2⟩ := psum_bd z len j HZ.out hj
      go_wp2_with fail
      refine (refIs_yes _ _ hz1 hz2).mono ?_; rintro e w' ⟨rfl, rfl⟩
      go_wp2_with fail
      go_round
      case rel => exact ⟨j + 1, by omega, rfl, by go_num⟩
      case measure => simp [intOf]; omega
    · obtain rfl : j = len := by omega
      go_wp2_with fail
      refine (refIs_no _ _ HX.out).mono ?_; rintro e w' ⟨rfl, rfl⟩
      go_wp2_with fail
      go_ret
      exact ⟨rfl, b1⟩
set_option maxRecDepth 100000 in
set_option maxHeartbeats 1000000 in
theorem sums_inv2_bad (a b : Int) (bl off len cap J : Nat) (z : Nat → Int) (w : World) (ha : -1125899906842624 ≤ a ∧ a ≤ 1125899906842624) (h : b < -1125899906842624 ∨ 1125899906842624 < b) (hl : len ≤ 100) (hc : Cells w bl off len z) (hbl : bl < w.heap.size) (hJ : J < len) (hx : z J < -1125899906842624 ∨ 1125899906842624 < z J) (hz : ∀ i, i < J → -1125899906842624 ≤ z i ∧ z i ≤ 1125899906842624) :
    Calls Tryd.prog 3 #[.int .i64 a, .int .i64 b, .slice (some ⟨bl, off, none⟩) len cap] w fun e w' => e = .returned (.bool true) ∧ Below w.heap.size w w' := by
  have H := Lib.hid h; clear h
  have HC := Lib.hid hc; clear hc
  have HZ := Lib.hid hz; clear hz
  have HX := Lib.hid hx; clear hx
  go_enter Tryd.func3, Tryd.ntmps3
  go_wp2_with fail
  refine (awake_any _).mono ?_; rintro e w1 ⟨rfl, b1⟩
  have HC := Lib.hid (cells_below b1 hbl HC.out)
  go_wp2_with fail
  with_reducible refine (add_range _ _ _ (Or.inr H.out)).mono ?_; rintro e w2 ⟨rfl, rfl⟩
  go_wp2_with fail
  with_reducible refine (mul_range _ _ _ (Or.inr H.out)).mono ?_; rintro e w2 ⟨rfl, rfl⟩
  go_wp2_with fail
  with_reducible refine (refIs_yes _ _ ha.1 ha.2).mono ?_; rintro e w2 ⟨rfl, rfl⟩
  go_wp2_with fail
  with_reducible refine (refIs_no _ _ H.out).mono ?_; rintro e w2 ⟨rfl, rfl⟩
  go_wp2_with fail
  with_reducible refine (sum_bad _ _ _ _ J z _ (by omega) HC.out hJ HX.out HZ.out).mono ?_; rintro e w2 ⟨rfl, rfl⟩
  go_wp2_with fail
  go_loop [17, 133] (fun s i => ∃ j : Nat, j ≤ J ∧ s = .int .i64 (psum z j) ∧ i = .int .i64 j) (fun _ i => len - (intOf i).toNat)
  case atStart => exact ⟨0, by omega, rfl, rfl⟩
  case round =>
    obtain ⟨j, hj, rfl, rfl⟩ := hrel
    have hlt : j < len := by omega
    have hcell := HC.out j hlt
    by_cases he : j < J
    · have hz := HZ.out j he
      obtain ⟨hz1, hz2⟩ := hz
      obtain ⟨hp1, hp2⟩ := psum_bd z J j HZ.out hj
      go_wp2_with fail
      refine (refIs_yes _ _ hz1 hz2).mono ?_; rintro e w' ⟨rfl, rfl⟩
      go_wp2_with fail
      go_round
      case rel => exact ⟨j + 1, by omega, rfl, by go_num⟩
      case measure => simp [intOf]; omega
    · obtain rfl : j = J := by omega
      go_wp2_with fail
      refine (refIs_no _ _ HX.out).mono ?_; rintro e w' ⟨rfl, rfl⟩
      go_wp2_with fail
      go_ret
      exact ⟨rfl, b1⟩
set_option maxRecDepth 100000 in
set_option maxHeartbeats 1000000 in
theorem sums_vsf_nil (a b : Int) (v : Option Addr) (cap : Nat) (w : World) (ha : -1125899906842624 ≤ a ∧ a ≤ 1125899906842624) (hb : -1125899906842624 ≤ b ∧ b ≤ 1125899906842624) (hs : -1125899906842624 ≤ a + b ∧ a + b ≤ 1125899906842624) (hf : Fits a b)  :
    Calls Tryd.prog 3 #[.int .i64 a, .int .i64 b, .slice v 0 cap] w fun e w' => e = .returned (.bool true) ∧ Below w.heap.size w w' := by
  have HF := Lib.hid hf; clear hf
  go_enter Tryd.func3, Tryd.ntmps3
  go_wp2_with fail
  refine (awake_any _).mono ?_; rintro e w1 ⟨rfl, b1⟩
  go_wp2_with fail
  with_reducible refine (add_ok _ _ _ ha hb hs).mono ?_; rintro e w2 ⟨rfl, rfl⟩
  go_wp2_with fail
  with_reducible refine (mul_fit _ _ _ ha hb HF.out).mono ?_; rintro e w2 ⟨rfl, rfl⟩
  go_wp2_with fail
  with_reducible refine (refIs_yes _ _ ha.1 ha.2).mono ?_; rintro e w2 ⟨rfl, rfl⟩
  go_wp2_with fail
  with_reducible refine (refIs_yes _ _ hb.1 hb.2).mono ?_; rintro e w2 ⟨rfl, rfl⟩
  go_wp2_with fail
  with_reducible refine (refAdd_ok _ _ _ ha hb hs).mono ?_; rintro e w2 ⟨rfl, rfl⟩
  go_wp2_with fail
  with_reducible refine (refMul_fit _ _ _ ha hb HF.out).mono ?_; rintro e w2 ⟨rfl, rfl⟩
  go_wp2_with fail
  with_reducible refine (sum_nil _ _ _).mono ?_; rintro e w2 ⟨rfl, rfl⟩
  go_wp2_with fail
  go_loop [17, 133] (fun s i => s = .int .i64 0 ∧ i = .int .i64 0) (fun _ _ => 0)
  case atStart => exact ⟨rfl, rfl⟩
  case round =>
    obtain ⟨rfl, rfl⟩ := hrel
    go_wp2_with fail
    refine (refIs_yes _ _ (by omega) (by omega)).mono ?_; rintro e w' ⟨rfl, rfl⟩
    go_wp2_with fail
    go_ret
    exact ⟨rfl, b1⟩
set_option maxRecDepth 100000 in
set_option maxHeartbeats 1000000 in
theorem sums_vsf_full (a b : Int) (v : Option Addr) (len cap : Nat) (w : World) (ha : -1125899906842624 ≤ a ∧ a ≤ 1125899906842624) (hb : -1125899906842624 ≤ b ∧ b ≤ 1125899906842624) (hs : -1125899906842624 ≤ a + b ∧ a + b ≤ 1125899906842624) (hf : Fits a b) (hl : 1000 < len) (hl2 : len ≤ 1100) :
    Calls Tryd.prog 3 #[.int .i64 a, .int .i64 b, .slice v len cap] w fun e w' => e = .returned (.bool true) ∧ Below w.heap.size w w' := by
  have HF := Lib.hid hf; clear hf
  go_enter Tryd.func3, Tryd.ntmps3
  go_wp2_with fail
  refine (awake_any _).mono ?_; rintro e w1 ⟨rfl, b1⟩
  go_wp2_with fail
  with_reducible refine (add_ok _ _ _ ha hb hs).mono ?_; rintro e w2 ⟨rfl, rfl⟩
  go_wp2_with fail
  with_reducible refine (mul_fit _ _ _ ha hb HF.out).mono ?_; rintro e w2 ⟨rfl, rfl⟩
  go_wp2_with fail
  with_reducible refine (refIs_yes _ _ ha.1 ha.2).mono ?_; rintro e w2 ⟨rfl, rfl⟩
  go_wp2_with fail
  with_reducible refine (refIs_yes _ _ hb.1 hb.2).mono ?_; rintro e w2 ⟨rfl, rfl⟩
  go_wp2_with fail
  with_reducible refine (refAdd_ok _ _ _ ha hb hs).mono ?_; rintro e w2 ⟨rfl, rfl⟩
  go_wp2_with fail
  with_reducible refine (refMul_fit _ _ _ ha hb HF.out).mono ?_; rintro e w2 ⟨rfl, rfl⟩
  go_wp2_with fail
  with_reducible refine (sum_full _ _ _ _ hl (by omega)).mono ?_; rintro e w2 ⟨rfl, rfl⟩
  go_wp2_with fail
  go_ret
  exact ⟨rfl, b1⟩
set_option maxRecDepth 100000 in
set_option maxHeartbeats 1000000 in
theorem sums_vsf_ok (a b : Int) (bl off len cap : Nat) (z : Nat → Int) (w : World) (ha : -1125899906842624 ≤ a ∧ a ≤ 1125899906842624) (hb : -1125899906842624 ≤ b ∧ b ≤ 1125899906842624) (hs : -1125899906842624 ≤ a + b ∧ a + b ≤ 1125899906842624) (hf : Fits a b) (hl : len ≤ 100) (hc : Cells w bl off len z) (hbl : bl < w.heap.size) (hz : ∀ i, i < len → -1125899906842624 ≤ z i ∧ z i ≤ 1125899906842624) (h0 : -1125899906842624 ≤ psum z len) (h1 : psum z len ≤ 1125899906842624) :
    Calls Tryd.prog 3 #[.int .i64 a, .int .i64 b, .slice (some ⟨bl, off, none⟩) len cap] w fun e w' => e = .returned (.bool true) ∧ Below w.heap.size w w' := by
  have HF := Lib.hid hf; clear hf
  have HC := Lib.hid hc; clear hc
  have HZ := Lib.hid hz; clear hz
  go_enter Tryd.func3, Tryd.ntmps3
  go_wp2_with fail
  refine (awake_any _).mono ?_; rintro e w1 ⟨rfl, b1⟩
  have HC := Lib.hid (cells_below b1 hbl HC.out)
  go_wp2_with fail
  with_reducible refine (add_ok _ _ _ ha hb hs).mono ?_; rintro e w2 ⟨rfl, rfl⟩
  go_wp2_with fail
  with_reducible refine (mul_fit _ _ _ ha hb HF.out).mono ?_; rintro e w2 ⟨rfl, rfl⟩
  go_wp2_with fail
  with_reducible refine (refIs_yes _ _ ha.1 ha.2).mono ?_; rintro e w2 ⟨rfl, rfl⟩
  go_wp2_with fail
  with_reducible refine (refIs_yes _ _ hb.1 hb.2).mono ?_; rintro e w2 ⟨rfl, rfl⟩
  go_wp2_with fail
  with_reducible refine (refAdd_ok _ _ _ ha hb hs).mono ?_; rintro e w2 ⟨rfl, rfl⟩
  go_wp2_with fail
  with_reducible refine (refMul_fit _ _ _ ha hb HF.out).mono ?_; rintro e w2 ⟨rfl, rfl⟩
  go_wp2_with fail
  with_reducible refine (sum_ok _ _ _ _ z _ (by omega) HC.out HZ.out h0 h1).mono ?_; rintro e w2 ⟨rfl, rfl⟩
  go_wp2_with fail
  go_loop [17, 133] (fun s i => ∃ j : Nat, j ≤ len ∧ s = .int .i64 (psum z j) ∧ i = .int .i64 j) (fun _ i => len - (intOf i).toNat)
  case atStart => exact ⟨0, by omega, rfl, rfl⟩
  case round =>
    obtain ⟨j, hj, rfl, rfl⟩ := hrel
    by_cases hlt : j < len
    · have hcell := HC.out j hlt
      have hz := HZ.out j hlt
      obtain ⟨hz1, hz2⟩ := hz
      obtain ⟨hp1, hp2⟩ := psum_bd z len j HZ.out hj
      go_wp2_with fail
      refine (refIs_yes _ _ hz1 hz2).mono ?_; rintro e w' ⟨rfl, rfl⟩
      go_wp2_with fail
      go_round
      case rel => exact ⟨j + 1, by omega, rfl, by go_num⟩
      case measure => simp [intOf]; omega
    · obtain rfl : j = len := by omega
      go_wp2_with fail
      refine (refIs_yes _ _ h0 h1).mono ?_; rintro e w' ⟨rfl, rfl⟩
      go_wp2_with fail
      go_ret
      exact ⟨rfl, b1⟩
set_option maxRecDepth 100000 in
set_option maxHeartbeats 1000000 in
theorem sums_vsf_big (a b : Int) (bl off len cap : Nat) (z : Nat → Int) (w : World) (ha : -1125899906842624 ≤ a ∧ a ≤ 1125899906842624) (hb : -1125899906842624 ≤ b ∧ b ≤ 1125899906842624) (hs : -1125899906842624 ≤ a + b ∧ a + b ≤ 1125899906842624) (hf : Fits a b) (hl : len ≤ 100) (hc : Cells w bl off len z) (hbl : bl < w.heap.size) (hz : ∀ i, i < len → -1125899906842624 ≤ z i ∧ z i ≤ 1125899906842624) (hx : psum z len < -1125899906842624 ∨ 1125899906842624 < psum z len) :
    Calls Tryd.prog 3 #[.int .i64 a, .int .i64 b, .slice (some ⟨bl, off, none⟩) len cap] w fun e w' => e = .returned (.bool true) ∧ Below w.heap.size w w' := by
  have HF := Lib.hid hf; clear hf
  have HC := Lib.hid hc; clear hc
  have HZ := Lib.hid hz; clear hz
  have HX := Lib.hid hx; clear hx
  go_enter Tryd.func3, Tryd.ntmps3
  go_wp2_with fail
  refine (awake_any _).mono ?_; rintro e w1 ⟨rfl, b1⟩
  have HC := Lib.hid (cells_below b1 hbl HC.out)
  go_wp2_with fail
  with_reducible refine (add_ok _ _ _ ha hb hs).mono ?_; rintro e w2 ⟨rfl, rfl⟩
  go_wp2_with fail
  with_reducible refine (mul_fit _ _ _ ha hb HF.out).mono ?_; rintro e w2 ⟨rfl, rfl⟩
  go_wp2_with fail
  with_reducible refine (refIs_yes _ _ ha.1 ha.2).mono ?_; rintro e w2 ⟨rfl, rfl⟩
  go_wp2_with fail
  with_reducible refine (refIs_yes _ _ hb.1 hb.2).mono ?_; rintro e w2 ⟨rfl, rfl⟩
  go_wp2_with fail
  with_reducible refine (refAdd_ok _ _ _ ha hb hs).mono ?_; rintro e w2 ⟨rfl, rfl⟩
  go_wp2_with fail
  with_reducible refine (refMul_fit _ _ _ ha hb HF.out).mono ?_; rintro e w2 ⟨rfl, rfl⟩
  go_wp2_with fail
  with_reducible refine (sum_big _ _ _ _ z _ (by omega) HC.out HZ.out HX.out).mono ?_; rintro e w2 ⟨rfl, rfl⟩
  go_wp2_with fail
  go_loop [17, 133] (fun s i => ∃ j : Nat, j ≤ len ∧ s = .int .i64 (psum z j) ∧ i = .int .i64 j) (fun _ i => len - (intOf i).toNat)
  case atStart => exact ⟨0, by omega, rfl, rfl⟩
  case round =>
    obtain ⟨j, hj, rfl, rfl⟩ := hrel
    by_cases hlt : j < len
    · have hcell := HC.out j hlt
      have hz := HZ.out j hlt
      obtain ⟨hz1, hz2⟩ := hz
      obtain ⟨hp1, hp2⟩ := psum_bd z len j HZ.out hj
      go_wp2_with fail
      refine (refIs_yes _ _ hz1 hz2).mono ?_; rintro e w' ⟨rfl, rfl⟩
      go_wp2_with fail
      go_round
      case rel => exact ⟨j + 1, by omega, rfl, by go_num⟩
      case measure => simp [intOf]; omega
    · obtain rfl : j = len := by omega
      go_wp2_with fail
      refine (refIs_no _ _ HX.out).mono ?_; rintro e w' ⟨rfl, rfl⟩
      go_wp2_with fail
      go_ret
      exact ⟨rfl, b1⟩
set_option maxRecDepth 100000 in
set_option maxHeartbeats 1000000 in
theorem sums_vsf_bad (a b : Int) (bl off len cap J : Nat) (z : Nat → Int) (w : World) (ha : -1125899906842624 ≤ a ∧ a ≤ 1125899906842624) (hb : -1125899906842624 ≤ b ∧ b ≤ 1125899906842624) (hs : -1125899906842624 ≤ a + b ∧ a + b ≤ 1125899906842624) (hf : Fits a b) (hl : len ≤ 100) (hc : Cells w bl off len z) (hbl : bl < w.heap.size) (hJ : J < len) (hx : z J < -1125899906842624 ∨ 1125899906842624 < z J) (hz : ∀ i, i < J → -1125899906842624 ≤ z i ∧ z i ≤ 1125899906842624) :
    Calls Tryd.prog 3 #[.int .i64 a, .int .i64 b, .slice (some ⟨bl, off, none⟩) len cap] w fun e w' => e = .returned (.bool true) ∧ Below w.heap.size w w' := by
  have HF := Lib.hid hf; clear hf
  have HC := Lib.hid hc; clear hc
  have HZ := Lib.hid hz; clear hz
  have HX := Lib.hid hx; clear hx
  go_enter Tryd.func3, Tryd.ntmps3
  go_wp2_with fail
  refine (awake_any _).mono ?_; rintro e w1 ⟨rfl, b1⟩
  have HC := Lib.hid (cells_below b1 hbl HC.out)
  go_wp2_with fail
  with_reducible refine (add_ok _ _ _ ha hb hs).mono ?_; rintro e w2 ⟨rfl, rfl⟩
  go_wp2_with fail
  with_reducible refine (mul_fit _ _ _ ha hb HF.out).mono ?_; rintro e w2 ⟨rfl, rfl⟩
  go_wp2_with fail
  with_reducible refine (refIs_yes _ _ ha.1 ha.2).mono ?_; rintro e w2 ⟨rfl, rfl⟩
  go_wp2_with fail
  with_reducible refine (refIs_yes _ _ hb.1 hb.2).mono ?_; rintro e w2 ⟨rfl, rfl⟩
  go_wp2_with fail
  with_reducible refine (refAdd_ok _ _ _ ha hb hs).mono ?_; rintro e w2 ⟨rfl, rfl⟩
  go_wp2_with fail
  with_reducible refine (refMul_fit _ _ _ ha hb HF.out).mono ?_; rintro e w2 ⟨rfl, rfl⟩
  go_wp2_with fail
  with_reducible refine (sum_bad _ _ _ _ J z _ (by omega) HC.out hJ HX.out HZ.out).mono ?_; rintro e w2 ⟨rfl, rfl⟩
  go_wp2_with fail
  go_loop [17, 133] (fun s i => ∃ j : Nat, j ≤ J ∧ s = .int .i64 (psum z j) ∧ i = .int .i64 j) (fun _ i => len - (intOf i).toNat)
  case atStart => exact ⟨0, by omega, rfl, rfl⟩
  case round =>
    obtain ⟨j, hj, rfl, rfl⟩ := hrel
    have hlt : j < len := by omega
    have hcell := HC.out j hlt
    by_cases he : j < J
    · have hz := HZ.out j he
      obtain ⟨hz1, hz2⟩ := hz
      obtain ⟨hp1, hp2⟩ := psum_bd z J j HZ.out hj
      go_wp2_with fail
      refine (refIs_yes _ _ hz1 hz2).mono ?_; rintro e w' ⟨rfl, rfl⟩
      go_wp2_with fail
      go_round
      case rel => exact ⟨j + 1, by omega, rfl, by go_num⟩
      case measure => simp [intOf]; omega
    · obtain rfl : j = J := by omega
      go_wp2_with fail
      refine (refIs_no _ _ HX.out).mono ?_; rintro e w' ⟨rfl, rfl⟩
      go_wp2_with fail
      go_ret
      exact ⟨rfl, b1⟩
end Go.Proofs.YtcgmbgamhlfpcaaDoor
