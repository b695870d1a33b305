/- NumberPascal: the law's own text, walked: it returns true for every two integers. -/
import Derived.Test.YtcgmbgamhlfpcaaDoorTxt
namespace Go.Proofs.YtcgmbgamhlfpcaaDoor
open Go.RowKit
theorem choose_at (N K : Nat) (n k c : Int) (w : World) (hn : n = N) (hk : k = K) (h1 : K ≤ N) (h2 : N ≤ 1000) (hc : (ch N K : Int) = c) (hM : c ≤ 1125899906842624) :
    Calls Tryd.prog 19 #[.int .i64 n, .int .i64 k] w fun e w' => e = .returned (.tuple #[.int .i64 c, .int .i64 0]) ∧ w = w' := by
  subst hk
  obtain ⟨m, rfl⟩ : ∃ m : Nat, N = m + K := ⟨N - K, by omega⟩
  obtain rfl : n = (m : Int) + K := by omega
  subst hc
  exact choose_ok m K w h2 (by omega)
theorem choose_over (n k : Int) (w : World) (h0 : 0 ≤ k) (h1 : k ≤ n) (h2 : n ≤ 1000) (hM : 1125899906842624 < ch n.toNat k.toNat) :
    Calls Tryd.prog 19 #[.int .i64 n, .int .i64 k] w fun e w' => e = .returned (.tuple #[.int .i64 0, .int .i64 9]) ∧ w = w' := by
  obtain ⟨K, rfl⟩ : ∃ K : Nat, k = K := ⟨k.toNat, by omega⟩
  obtain ⟨m, rfl⟩ : ∃ m : Nat, n = (m : Int) + K := ⟨(n - K).toNat, by omega⟩
  have e1 : ((m : Int) + K).toNat = m + K := by omega
  have e2 : (K : Int).toNat = K := by omega
  rw [e1, e2] at hM
  exact choose_big m K w (by omega) hM
theorem pascal_range (n k : Int) (w : World) (h : n < 0 ∨ 1000 < n ∨ k < 0 ∨ n < k) :
    Calls Tryd.prog 8 #[.int .i64 n, .int .i64 k] w fun e w' => e = .returned (.bool true) ∧ Below w.heap.size w w' := by
  have H := Lib.hid h; clear h
  go_enter Tryd.func8, Tryd.ntmps8
  go_wp2_with fail
  refine (awake_any _).mono ?_; rintro e w1 ⟨rfl, b1⟩
  go_wp2_with fail
  refine (choose_range _ _ _ H.out).mono ?_; rintro e w2 ⟨rfl, rfl⟩
  go_wp2
  go_ret
  exact ⟨rfl, b1⟩
theorem pascal_over (n k : Int) (w : World) (h0 : 0 ≤ k) (h1 : k ≤ n) (h2 : n ≤ 1000) (hM : 1125899906842624 < ch n.toNat k.toNat) :
    Calls Tryd.prog 8 #[.int .i64 n, .int .i64 k] w fun e w' => e = .returned (.bool true) ∧ Below w.heap.size w w' := by
  have H := Lib.hid hM; clear hM
  go_enter Tryd.func8, Tryd.ntmps8
  go_wp2_with fail
  refine (awake_any _).mono ?_; rintro e w1 ⟨rfl, b1⟩
  go_wp2_with fail
  refine (choose_over _ _ _ h0 h1 h2 H.out).mono ?_; rintro e w2 ⟨rfl, rfl⟩
  go_wp2
  go_ret
  exact ⟨rfl, b1⟩
theorem pow_small (N : Nat) (h : N ≤ 49) : 2 ^ N ≤ 562949953421312 := by
  have : 2 ^ N ≤ 2 ^ 49 := Nat.pow_le_pow_right (by omega) h
  exact this
theorem chSum_small (N j : Nat) (h : N ≤ 49) (hj : j ≤ N + 1) : chSum N j ≤ 562949953421312 := by
  obtain ⟨d, hd⟩ : ∃ d, N + 1 = j + d := ⟨N + 1 - j, by omega⟩
  have h1 := chSum_le N j d
  rw [← hd, chSum_row] at h1
  exact Nat.le_trans h1 (pow_small N h)
theorem row_sum (N : Nat) (h : N ≤ 49) : ((chSum N (N + 1) : Int) == wrap64 (2 ^ N)) = true := by
  have h1 := pow_small N h
  have e : (2 : Int) ^ N = ((2 ^ N : Nat) : Int) := by push_cast; rfl
  rw [e, chSum_row]
  generalize 2 ^ N = z at h1
  rw [IntWalk.wrap64_in _ (by constructor <;> omega)]
  exact beq_self_eq_true _
set_option maxHeartbeats 2000000 in
theorem pascal_ok (N K : Nat) (w : World) (h1 : K ≤ N) (h2 : N ≤ 1000) (hM : ch N K ≤ 1125899906842624) :
    Calls Tryd.prog 8 #[.int .i64 N, .int .i64 K] w fun e w' => e = .returned (.bool true) ∧ Below w.heap.size w w' := by
  obtain ⟨c, hc⟩ : ∃ c : Int, (ch N K : Int) = c := ⟨_, rfl⟩
  have hcM : c ≤ 1125899906842624 := by omega
  have hs : (ch N (N - K) : Int) = c := by rw [← ch_symm N K h1]; exact hc
  have HC := Lib.hid hc
  have HS := Lib.hid hs
  by_cases hk : 0 < K ∧ K < N
  · have hp : ch N K = ch (N - 1) (K - 1) + ch (N - 1) K := by
      obtain ⟨n', rfl⟩ : ∃ n', N = n' + 1 := ⟨N - 1, by omega⟩
      obtain ⟨k', rfl⟩ : ∃ k', K = k' + 1 := ⟨K - 1, by omega⟩
      rfl
    obtain ⟨x, hx⟩ : ∃ x : Int, (ch (N - 1) (K - 1) : Int) = x := ⟨_, rfl⟩
    obtain ⟨y, hy⟩ : ∃ y : Int, (ch (N - 1) K : Int) = y := ⟨_, rfl⟩
    have hxy : x + y = c := by omega
    have hx0 : 0 ≤ x := by omega
    have hy0 : 0 ≤ y := by omega
    have hxyb : (x + y == c) = true := by simpa using hxy
    have HX := Lib.hid hx
    have HY := Lib.hid hy
    have HXY := Lib.hid hxy
    have hxyM : x + y ≤ 1125899906842624 := by omega
    clear hp hx hy hxyb hc hs hM
    obtain ⟨hk1, hk2⟩ := hk
    go_enter Tryd.func8, Tryd.ntmps8
    go_wp2_with fail
    refine (awake_any _).mono ?_; rintro e w1 ⟨rfl, b1⟩
    go_wp2_with fail
    with_reducible refine (choose_at N K _ _ c _ rfl rfl h1 h2 HC.out hcM).mono ?_; rintro e w2 ⟨rfl, rfl⟩
    go_wp2_with fail
    with_reducible refine (choose_at N (N - K) _ _ c _ rfl (by omega) (by omega) h2 HS.out hcM).mono ?_; rintro e w2 ⟨rfl, rfl⟩
    go_wp2_with fail
    with_reducible refine (choose_at (N - 1) (K - 1) _ _ x _ (by omega) (by omega) (by omega) (by omega) HX.out (by omega)).mono ?_; rintro e w2 ⟨rfl, rfl⟩
    go_wp2_with fail
    with_reducible refine (choose_at (N - 1) K _ _ y _ (by omega) rfl (by omega) (by omega) HY.out (by omega)).mono ?_; rintro e w2 ⟨rfl, rfl⟩
    by_cases h49 : 49 < N
    · go_wp2
      go_ret
      exact ⟨rfl, b1⟩
    · have h49' : N ≤ 49 := by omega
      go_wp2
      clear HC HS HX HY HXY hxy
      go_loop [13, 85] (fun s i => ∃ j : Nat, j ≤ N + 1 ∧ s = .int .i64 (chSum N j : Nat) ∧ i = .int .i64 j) (fun _ i => N + 1 - (intOf i).toNat)
      case atStart => exact ⟨0, by omega, rfl, rfl⟩
      case round =>
        obtain ⟨j, hj, rfl, rfl⟩ := hrel
        have hB := chSum_small N j h49' hj
        by_cases hlt : j < N + 1
        · have hB2 := chSum_small N (j + 1) h49' hlt
          have hstep : chSum N (j + 1) = chSum N j + ch N j := rfl
          have hc1 : ch N j ≤ 562949953421312 := by omega
          have hc2 : chSum N j + ch N j ≤ 562949953421312 := by omega
          have HST := Lib.hid hstep
          clear hstep
          go_wp2_with fail
          with_reducible refine (choose_at N j _ _ (ch N j : Nat) _ rfl rfl (by omega) h2 rfl (by omega)).mono ?_; rintro e w2 ⟨rfl, rfl⟩
          go_wp2
          go_round
          case rel => exact ⟨j + 1, by omega, by rw [HST.out]; go_num, by go_num⟩
          case measure => simp [intOf]; omega
        · obtain rfl : j = N + 1 := by omega
          go_wp2
          go_ret
          exact ⟨ret_bool (row_sum N h49'), b1⟩
  · have hc1 : c = 1 := by
      have : K = 0 ∨ K = N := by omega
      rcases this with rfl | rfl
      · rw [ch_zero] at hc; exact hc.symm
      · rw [ch_self] at hc; exact hc.symm
    subst hc1
    clear hc hs hM hcM
    have hk' : (K : Int) ≤ 0 ∨ (0 < N ∧ N = K) := by omega
    have HK := Lib.hid hk; clear hk
    rcases hk' with hk' | ⟨hk', rfl⟩
    all_goals
      go_enter Tryd.func8, Tryd.ntmps8
      go_wp2_with fail
      refine (awake_any _).mono ?_; rintro e w1 ⟨rfl, b1⟩
      go_wp2_with fail
      with_reducible refine (choose_at N _ _ _ 1 _ rfl rfl h1 h2 HC.out (by omega)).mono ?_; rintro e w2 ⟨rfl, rfl⟩
      go_wp2_with fail
      with_reducible refine (choose_at N _ _ _ 1 _ rfl (by omega) (by omega) h2 HS.out (by omega)).mono ?_; rintro e w2 ⟨rfl, rfl⟩
      by_cases h49 : 49 < N
      · go_wp2
        go_ret
        exact ⟨rfl, b1⟩
      · have h49' : N ≤ 49 := by omega
        go_wp2
        clear HC HS
        go_loop [13, 85] (fun s i => ∃ j : Nat, j ≤ N + 1 ∧ s = .int .i64 (chSum N j : Nat) ∧ i = .int .i64 j) (fun _ i => N + 1 - (intOf i).toNat)
        case atStart => exact ⟨0, by omega, rfl, rfl⟩
        case round =>
          obtain ⟨j, hj, rfl, rfl⟩ := hrel
          have hB := chSum_small N j h49' hj
          by_cases hlt : j < N + 1
          · have hB2 := chSum_small N (j + 1) h49' hlt
            have hstep : chSum N (j + 1) = chSum N j + ch N j := rfl
            have hc1 : ch N j ≤ 562949953421312 := by omega
            have hc2 : chSum N j + ch N j ≤ 562949953421312 := by omega
            have HST := Lib.hid hstep
            clear hstep
            go_wp2_with fail
            with_reducible refine (choose_at N j _ _ (ch N j : Nat) _ rfl rfl (by omega) h2 rfl (by omega)).mono ?_; rintro e w2 ⟨rfl, rfl⟩
            go_wp2
            go_round
            case rel => exact ⟨j + 1, by omega, by rw [HST.out]; go_num, by go_num⟩
            case measure => simp [intOf]; omega
          · obtain rfl : j = N + 1 := by omega
            go_wp2
            go_ret
            exact ⟨ret_bool (row_sum N h49'), b1⟩
theorem pascal_any (n k : Int) (w : World) :
    Calls Tryd.prog 8 #[.int .i64 n, .int .i64 k] w fun e w' => e = .returned (.bool true) ∧ Below w.heap.size w w' := by
  by_cases h : n < 0 ∨ 1000 < n ∨ k < 0 ∨ n < k
  · exact pascal_range n k w h
  · by_cases hM : 1125899906842624 < ch n.toNat k.toNat
    · exact pascal_over n k w (by omega) (by omega) (by omega) hM
    · obtain ⟨N, rfl⟩ : ∃ N : Nat, n = N := ⟨n.toNat, by omega⟩
      obtain ⟨K, rfl⟩ : ∃ K : Nat, k = K := ⟨k.toNat, by omega⟩
      exact pascal_ok N K w (by omega) (by omega) (by have : ¬ 1125899906842624 < ch N K := hM; omega)
end Go.Proofs.YtcgmbgamhlfpcaaDoor
