/- FlowBest: the law's own text, walked: it returns true for all weights and needs. -/
import Derived.Test.YtjdceafkcakbjaaFBe
namespace Go.Proofs.Ytjdceafkcakbjaa
open Go.RowKit
def BeP (k q c d : Nat) (A B : Option Addr) (w : World) : Prop := Calls Try.prog 9 #[.slice A k c, .slice B q d] w fun e w' => e = .returned (.bool true) ∧ Below w.heap.size w w'
theorem be_early (k q c d : Nat) (A B : Option Addr) (w : World) (h : k < 1 ∨ 12 < k ∨ 80 < q) : BeP k q c d A B w := by
  have haw := Lib.hid (awake_any w)
  by_cases h1 : k < 1
  · have q1 : decide ((k : Int) < 1) = true := decide_eq_true (by omega)
    clear h
    go_enter Try.func9, Try.ntmps9
    go_wp2_with fail
    refine haw.out.mono ?_; rintro e w1 ⟨rfl, b1⟩
    go_wp2_with fail
    go_ret
    exact ⟨rfl, b1⟩
  · have q1 : decide ((k : Int) < 1) = false := decide_eq_false (by omega)
    by_cases h2 : 12 < k
    · have q2 : decide (12 < (k : Int)) = true := decide_eq_true (by omega)
      clear h
      go_enter Try.func9, Try.ntmps9
      go_wp2_with fail
      refine haw.out.mono ?_; rintro e w1 ⟨rfl, b1⟩
      go_wp2_with fail
      go_ret
      exact ⟨rfl, b1⟩
    · have q2 : decide (12 < (k : Int)) = false := decide_eq_false (by omega)
      have q3 : decide (80 < (q : Int)) = true := decide_eq_true (by omega)
      clear h
      go_enter Try.func9, Try.ntmps9
      go_wp2_with fail
      refine haw.out.mono ?_; rintro e w1 ⟨rfl, b1⟩
      go_wp2_with fail
      go_ret
      exact ⟨rfl, b1⟩
theorem be_err (k q c d : Nat) (A B : Option Addr) (z : Nat → Int) (y : Nat → Int × Int) (w : World) (hA : Ints w A k z) (hB : Prs w B q y) (h1 : 1 ≤ k) (h2 : k ≤ 12) (h3 : q ≤ 80) (hn : ¬ CArgs k q z y) : BeP k q c d A B w := by
  have haw := Lib.hid (awake_any w)
  have q1 : decide ((k : Int) < 1) = false := decide_eq_false (by omega)
  have q2 : decide (12 < (k : Int)) = false := decide_eq_false (by omega)
  have q3 : decide (80 < (q : Int)) = false := decide_eq_false (by omega)
  have hcl : Hid (∀ u, Below w.heap.size w u → Calls Try.prog 30 #[.slice A k c, .slice B q d] u fun e w' => e = .returned (.tuple #[.agg #[.int .i64 0, .slice none 0 0], .int .i64 0, .int .i64 2]) ∧ Below u.heap.size u w') := fun u hu =>
    clo_err k q c d A B 2 z y u (hA.below hu) (hB.below hu) (Or.inr ⟨by omega, by omega, hn, rfl⟩)
  clear hA hB hn
  go_enter Try.func9, Try.ntmps9
  go_wp2_with fail
  refine haw.out.mono ?_; rintro e w1 ⟨rfl, b1⟩
  go_wp2_with fail
  refine (hcl.out _ b1).mono ?_; rintro e w2 ⟨rfl, b2⟩
  have s2 := setAt_new w2 0 none 0 0
  have c0 := s2.c0
  have c1 := s2.c1
  have B2 := below_next (below_next b1 b2) (below_new w2 (.cells #[.int .i64 0, .slice none 0 0] 28))
  go_wp2_with fail
  refine (none_yes _).mono ?_; rintro e w3 ⟨rfl, b3⟩
  go_wp2_with fail
  go_ret
  exact ⟨rfl, below_next B2 b3⟩
set_option maxRecDepth 100000 in
set_option maxHeartbeats 8000000 in
theorem be_main (k q c d : Nat) (A B : Option Addr) (z : Nat → Int) (y : Nat → Int × Int) (w : World) (hA : Ints w A k z) (hB : Prs w B q y) (h1 : 1 ≤ k) (h2 : k ≤ 12) (h3 : q ≤ 80) (ha : CArgs k q z y) : BeP k q c d A B w := by
  have haw := Lib.hid (awake_any w)
  have q1 : decide ((k : Int) < 1) = false := decide_eq_false (by omega)
  have q2 : decide (12 < (k : Int)) = false := decide_eq_false (by omega)
  have q3 : decide (80 < (q : Int)) = false := decide_eq_false (by omega)
  have hcl : Hid (∀ u, Below w.heap.size w u → Calls Try.prog 30 #[.slice A k c, .slice B q d] u (ClOk u k q z y)) := fun u hu => clo_ok k q c d A B z y u (hA.below hu) (hB.below hu) ha
  have HA := Lib.hid hA; clear hA
  have HB := Lib.hid hB; clear hB
  have HG := Lib.hid ha; clear ha
  have hk1 : (k + 63) / 64 = 1 := by omega
  have hpw : 2 ^ k ≤ 4096 := by
    have : 2 ^ k ≤ 2 ^ 12 := Nat.pow_le_pow_right (by decide) h2
    exact this
  go_enter Try.func9, Try.ntmps9
  go_wp2_with fail
  refine haw.out.mono ?_; rintro e w1 ⟨rfl, b1⟩
  go_wp2_with fail
  refine (hcl.out _ b1).mono ?_; rintro e w2 ⟨gX, l, rfl, hrX, hl, hbest, _, b2⟩
  rw [hk1] at hrX ⊢
  have bS := below_new w2 (.cells #[.int .i64 k, .slice (some ⟨gX, 0, none⟩) 1 1] 28)
  have s2 := setAt_new w2 k (some ⟨gX, 0, none⟩) 1 1
  have hX2 := row_below hrX bS
  have B2 := below_next (below_next b1 b2) bS
  have hXlt := small_lt (l := l) (k := k) hl
  have HBE := Lib.hid hbest
  have HSM : Hid (∀ v, v < k → bt (setF l) v = (setF l 0).testBit v) := fun v hv => small_bt (by omega)
  clear hcl hrX hbest b1 b2 bS haw hl
  have c0 := s2.c0
  have c1 := s2.c1
  have hqk : ((k : Int) != (k : Int)) = false := by simp
  have hmin : min k 64 = k := Nat.min_eq_left (by omega)
  obtain ⟨W0, hW0⟩ : ∃ W0, W0 = wgt z (bt (setF l)) k := ⟨_, rfl⟩
  rw [← hW0]
  have HW0 := Lib.hid hW0
  clear hW0
  obtain ⟨P, hP⟩ : ∃ P : Nat, P = 2 ^ k := ⟨_, rfl⟩
  have hshl : IntKind.u64.wrap ((2 : Int) ^ k) = (P : Int) := by
    have e : ((2 : Int) ^ k) = ((2 ^ k : Nat) : Int) := by simp
    rw [e, hP]; exact wrap_nat _ (by omega)
  rw [← hP] at hXlt hpw
  have hxc := hX2.cell (i := 0) (by decide)
  obtain ⟨X, hX⟩ : ∃ X, X = setF l 0 := ⟨_, rfl⟩
  have HX := Lib.hid hX
  have hX4 : X ≤ 4096 := by rw [hX]; omega
  rw [← hX] at hXlt
  replace hxc : (w2.alloc (.cells #[.int .i64 (k : Int), .slice (some ⟨gX, 0, none⟩) 1 1] 28)).cell? ⟨gX, 0, none⟩ = some (.int .u64 (X : Int)) := by rw [hX]; exact hxc
  have hwX : Hid (wgt z X.testBit k = W0) := by
    show _ = _
    rw [HW0.out]
    exact wgt_congr fun v hv => by rw [HSM.out v hv, hX]
  have hclX : Hid (Closed y q X.testBit) := fun j hj h => by
    have hn := HG.out.y j hj
    unfold NOk at hn
    have e1 := HSM.out (y j).1.toNat (by omega)
    have e2 := HSM.out (y j).2.toNat (by omega)
    rw [← hX] at e1 e2
    rw [← e2]
    exact HBE.out.cl j hj (by rw [e1]; exact h)
  have hbst : Hid (∀ M : Nat, Closed y q M.testBit → wgt z M.testBit k ≤ W0 ∧ (wgt z M.testBit k = W0 → M &&& X = X)) := fun M hM => by
    obtain ⟨g1, g2⟩ := HBE.out.best M.testBit hM
    rw [HW0.out]
    refine ⟨g1, fun he => and_sub (k := k) (by rw [← hP]; exact hXlt) fun v hv hx => g2 he v hv ?_⟩
    rw [HSM.out v hv, ← hX]; exact hx
  have HP := Lib.hid hP
  have hgl := hX2.lt
  clear hX hP HSM HBE hX2
  go_upto_region 13 with fail
  generalize hW : w2.alloc (.cells #[.int .i64 (k : Int), .slice (some ⟨gX, 0, none⟩) 1 1] 28) = W at *
  clear hW c0 c1
  generalize w2.heap.size = px at *
  go_loopw [9, 10, 11, 12, 13, 56] (fun f _ _ _ _ i wr => ∃ M : Nat, M ≤ P ∧ i = .int .u64 M ∧ f = .bool (decide (X < M)) ∧ Below W.heap.size W wr) (fun _ _ _ _ _ i _ => P - (intOf i).toNat)
  case atStart => exact ⟨0, by omega, rfl, rfl, Below.refl _ _⟩
  case round =>
    obtain ⟨M, hM, rfl, rfl, hBe⟩ := hrel
    by_cases hlt : M < P
    · have hwm : IntKind.u64.wrap ((M : Int) + 1) = (M : Int) + 1 := by have := wrap_nat (M + 1) (by omega); rw [show ((M + 1 : Nat) : Int) = (M : Int) + 1 by omega] at this; exact this
      have hM64 : M < 18446744073709551616 := by omega
      have bM := below_new wr (.cells #[.int .u64 (M : Int)] 61)
      have eM : (wr.alloc (.cells #[.int .u64 (M : Int)] 61)).heap[wr.heap.size]? = some (.cells #[.int .u64 (M : Int)] 61 (0, 0)) := heap_alloc_new wr _
      have BM := below_next hBe bM
      have hpm := lt_of_block eM
      have cM : (wr.alloc (.cells #[.int .u64 (M : Int)] 61)).cell? ⟨wr.heap.size, 0, none⟩ = some (.int .u64 (M : Int)) := cell_of_row _ _ 0 _ _ _ eM
      by_cases hcl : Closed y q M.testBit
      · have hcon := Lib.hid (contains_need B q d k M wr.heap.size y false _ (HB.out.below (below_next B2 BM)) (by omega) HG.out.y hM64 (by omega) hpm cM (Or.inl ⟨rfl, hcl⟩))
        obtain ⟨hle, heq⟩ := hbst.out M hcl
        have HEQ := Lib.hid heq
        clear heq hcl
        go_wp2_with fail
        refine hcon.out.mono ?_; rintro e w4 ⟨rfl, b4⟩
        have cM4 := (b4.cell (p := ⟨wr.heap.size, 0, none⟩) hpm).trans cM
        have hpm4 : wr.heap.size < w4.heap.size := Nat.lt_of_lt_of_le hpm b4.size
        have B4 := below_next BM b4
        clear hcon b4 bM eM BM hpm cM hBe
        generalize wr.heap.size = pm at *
        go_wp2_with fail
        go_loopw [11, 12, 13, 64] (fun sm _ _ i w5 => ∃ K : Nat, K ≤ k ∧ i = .int .i64 K ∧ sm = .int .i64 (wgt z M.testBit K) ∧ Below w4.heap.size w4 w5) (fun _ _ _ i _ => k - (intOf i).toNat)
        case atStart => exact ⟨0, by omega, rfl, rfl, Below.refl _ _⟩
        case round =>
          obtain ⟨K, hK, rfl, rfl, hB5⟩ := hrel
          have cM5 := (hB5.cell (p := ⟨pm, 0, none⟩) hpm4).trans cM4
          by_cases hlt2 : K < k
          · obtain ⟨b, off, rfl, hbl, hcz⟩ := (HA.out.below (below_next B2 (below_next B4 hB5))) (by omega)
            have x0 := hcz K hlt2
            clear hcz
            have hzK := HG.out.z K hlt2
            unfold WOk at hzK
            have hwb := wgt_bound (z := z) (S := M.testBit) (K := K) (fun i hi => HG.out.z i (by omega)) (by omega)
            have hwrap : IntKind.i64.wrap ((K : Int) + 1) = (K : Int) + 1 := IntWalk.i64_in _ (by omega)
            have hw2 : IntKind.i64.wrap (wgt z M.testBit K + z K) = wgt z M.testBit K + z K := IntWalk.i64_in _ (by omega)
            have hmK : min K 64 = K := Nat.min_eq_left (by omega)
            have hstep : Hid (wgt z M.testBit (K + 1) = wgt z M.testBit K + (if M.testBit K = true then z K else 0)) := rfl
            have htb := and_one_test M K hM64
            obtain ⟨vb, hvb⟩ : ∃ vb, M.testBit K = vb := ⟨_, rfl⟩
            rw [hvb] at htb
            have hst2 : Hid (wgt z M.testBit (K + 1) = wgt z M.testBit K + (if vb = true then z K else 0)) := by show _ = _; rw [← hvb]; exact hstep.out
            clear hstep hvb
            generalize wgt z M.testBit K = wg at *
            generalize z K = zk at *
            cases vb with
            | false =>
              have hst3 : Hid (wgt z M.testBit (K + 1) = wg) := by show _ = _; have := hst2.out; simpa using this
              clear hst2
              go_wp2_with fail
              go_roundw
              case rel => exact ⟨K + 1, by omega, by go_num, by rw [hst3.out], hB5⟩
              case measure => simp [intOf]; omega
            | true =>
              have hst3 : Hid (wgt z M.testBit (K + 1) = wg + zk) := by show _ = _; have := hst2.out; simpa using this
              clear hst2
              go_wp2_with fail
              go_roundw
              case rel => exact ⟨K + 1, by omega, by go_num, by rw [hst3.out], hB5⟩
              case measure => simp [intOf]; omega
          · obtain rfl : K = k := by omega
            have hBW := below_next B4 hB5
            have s5 := s2.below hBW
            have c1 := s5.c1
            have cX := (hBW.cell (p := ⟨gX, 0, none⟩) hgl).trans hxc
            have hand : bits .and .u64 (M : Int) (X : Int) = ((M &&& X : Nat) : Int) := and_u64 M X hM64 (by omega)
            by_cases hMX : M = X
            · subst hMX
              have hS := hwX.out
              have hdec : Hid (decide (M < M + 1) = true) := decide_eq_true (by omega)
              have q5 : ((M : Int) == (M : Int)) = true := by simp
              have q6 : (W0 == W0) = true := by simp
              have q7 : decide (W0 < W0) = false := decide_eq_false (by omega)
              have hself : (M &&& M) = M := Nat.and_self M
              rw [hself] at hand
              have q8 : ((M : Int) != (M : Int)) = false := by simp
              rw [hS]
              clear hle HEQ hself
              go_wp2_with fail
              go_quiet (fail)
              go_wp2_with fail
              go_quiet (fail)
              go_wp2_with fail
              go_roundw
              case rel => exact ⟨M + 1, by omega, by go_num, by rw [hdec.out], below_drewN hBW _⟩
              case measure => simp [intOf]; omega
            · have hdec : Hid (decide (X < M) = decide (X < M + 1)) := by
                show _ = _
                by_cases h : X < M
                · rw [decide_eq_true h, decide_eq_true (by omega)]
                · rw [decide_eq_false h, decide_eq_false (by omega)]
              have q5 : ((M : Int) == (X : Int)) = false := beq_false_of_ne (by omega)
              by_cases hSW : wgt z M.testBit K = W0
              · have hMX2 := HEQ.out hSW
                rw [hMX2] at hand
                have q6 : (W0 == W0) = true := by simp
                have q7 : decide (W0 < W0) = false := decide_eq_false (by omega)
                have q8 : ((X : Int) != (X : Int)) = false := by simp
                rw [hSW]
                clear hle HEQ hMX2 hMX hSW
                go_wp2_with fail
                go_quiet (fail)
                go_wp2_with fail
                go_quiet (fail)
                go_wp2_with fail
                go_roundw
                case rel => exact ⟨M + 1, by omega, by go_num, by rw [hdec.out], below_drewN hBW _⟩
                case measure => simp [intOf]; omega
              · generalize wgt z M.testBit K = S at *
                have q6 : (S == W0) = false := beq_false_of_ne hSW
                have q7 : decide (W0 < S) = false := decide_eq_false (by omega)
                clear hle HEQ hMX hSW
                go_wp2_with fail
                go_quiet (fail)
                go_wp2_with fail
                go_quiet (fail)
                go_wp2_with fail
                go_roundw
                case rel => exact ⟨M + 1, by omega, by go_num, by rw [hdec.out], below_drewN hBW _⟩
                case measure => simp [intOf]; omega
      · have hcon := Lib.hid (contains_need B q d k M wr.heap.size y true _ (HB.out.below (below_next B2 BM)) (by omega) HG.out.y hM64 (by omega) hpm cM (Or.inr ⟨rfl, hcl⟩))
        have hMX : M ≠ X := fun e => hcl (by rw [e]; exact hclX.out)
        have hdec : Hid (decide (X < M) = decide (X < M + 1)) := by
          show _ = _
          by_cases h : X < M
          · rw [decide_eq_true h, decide_eq_true (by omega)]
          · rw [decide_eq_false h, decide_eq_false (by omega)]
        clear hcl
        go_wp2_with fail
        refine hcon.out.mono ?_; rintro e w4 ⟨rfl, b4⟩
        have B4 := below_next BM b4
        clear hcon b4 bM eM BM hpm cM hBe
        go_wp2_with fail
        go_roundw
        case rel => exact ⟨M + 1, by omega, by go_num, by rw [hdec.out], B4⟩
        case measure => simp [intOf]; omega
    · obtain rfl : M = P := by omega
      have hfin : decide (X < M) = true := decide_eq_true hXlt
      go_wp2_with fail
      go_ret
      exact ⟨by simp; exact hXlt, below_next B2 hBe⟩
theorem be_law (A : Option Addr) (k c : Nat) (z : Nat → Int) (B : Option Addr) (q d : Nat) (y : Nat → Int × Int) (w : World) (hA : Ints w A k z) (hB : Prs w B q y) : BeP k q c d A B w := by
  by_cases h : k < 1 ∨ 12 < k ∨ 80 < q
  · exact be_early k q c d A B w h
  · by_cases ha : CArgs k q z y
    · exact be_main k q c d A B z y w hA hB (by omega) (by omega) (by omega) ha
    · exact be_err k q c d A B z y w hA hB (by omega) (by omega) (by omega) ha
end Go.Proofs.Ytjdceafkcakbjaa
