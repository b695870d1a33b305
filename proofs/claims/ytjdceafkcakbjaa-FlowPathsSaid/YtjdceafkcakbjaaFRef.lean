/- The reference's Valid and Ends, and the law's few. -/
import Derived.Test.YtjdceafkcakbjaaFNet
namespace Go.Proofs.Ytjdceafkcakbjaa
open Go.RowKit
set_option maxHeartbeats 4000000 in
theorem refValid_any (N : Int) (A : Option Addr) (m c : Nat) (E : Nat → EdgeD) (J : Nat) (v : Bool) (w : World) (h : Edges w A m E) (h1 : 1 ≤ N) (h2 : N ≤ 512) (hm : m ≤ 2000) (hJ : J ≤ m) (hz : ∀ k, k < J → VEdge N (E k))
    (hv : (v = true ∧ J = m) ∨ (v = false ∧ J < m ∧ ¬ VEdge N (E J))) :
    Calls Try.prog 13 #[.agg #[.int .i64 N, .slice A m c]] w fun e w' => e = .returned (.bool v) ∧ Below w.heap.size w w' := by
  have HH := Lib.hid h; clear h
  have HZ := Lib.hid hz; clear hz
  have HV := Lib.hid hv; clear hv
  have n0 := netAt_new w N A m c
  have b0 := below_new w (.cells #[.int .i64 N, .slice A m c] 24)
  have c0 := n0.c0
  have c1 := n0.c1
  have d1 : decide (N < 1) = false := decide_eq_false (by omega)
  have d2 : decide (512 < N) = false := decide_eq_false (by omega)
  have d3 : decide (2000 < (m : Int)) = false := decide_eq_false (by omega)
  go_enter Try.func13, Try.ntmps13
  go_wp2_with fail
  clear c0 c1
  go_loopw [3] (fun i wr => ∃ K : Nat, K ≤ J ∧ i = .int .i64 K ∧ NetAt wr w.heap.size N A m c ∧ Below w.heap.size w wr) (fun i _ => J - (intOf i).toNat)
  case atStart => exact ⟨0, by omega, rfl, n0, b0⟩
  case round =>
    clear n0 b0
    obtain ⟨K, hK, rfl, hn, hB⟩ := hrel
    have k1 := hn.c1
    by_cases hlt : K < m
    · obtain ⟨b, off, rfl, hbl, hcz⟩ := (HH.out.below hB) (by omega)
      obtain ⟨x0, x1, x2⟩ := hcz K hlt
      clear hcz
      have hz := HZ.out K
      have HZK := Lib.hid hz; clear hz
      have hn2 := hn.alloc (.cells #[.int .i64 (E K).f, .int .i64 (E K).t, .int .i64 (E K).c] 50)
      have B2 := below_next hB (below_new wr (.cells #[.int .i64 (E K).f, .int .i64 (E K).t, .int .i64 (E K).c] 50))
      have e2 : (wr.alloc (.cells #[.int .i64 (E K).f, .int .i64 (E K).t, .int .i64 (E K).c] 50)).heap[wr.heap.size]? = some (.cells #[.int .i64 (E K).f, .int .i64 (E K).t, .int .i64 (E K).c] 50 (0, 0)) := heap_alloc_new wr _
      have hwrap : IntKind.i64.wrap ((K : Int) + 1) = (K : Int) + 1 := IntWalk.i64_in _ (by omega)
      by_cases hKJ : K < J
      · obtain ⟨⟨p0, p1, p2⟩, hc0, hc1⟩ := HZK.out hKJ
        generalize (E K).f = ef at *
        generalize (E K).t = et at *
        generalize (E K).c = ec at *
        have q0 : decide (ef < 0) = false := decide_eq_false (by omega)
        have q1 : decide (N ≤ ef) = false := decide_eq_false (by omega)
        have q2 : decide (et < 0) = false := decide_eq_false (by omega)
        have q3 : decide (N ≤ et) = false := decide_eq_false (by omega)
        have q4 : (ef == et) = false := beq_false_of_ne p0
        have q5 : decide (ec < 0) = false := decide_eq_false (by omega)
        have q6 : decide (1125899906842624 < ec) = false := decide_eq_false (by omega)
        have c0 := hn2.c0
        have y0 := cell_of_row _ _ 0 _ _ _ e2
        have y1 := cell_of_row _ _ 1 _ _ _ e2
        have y2 := cell_of_row _ _ 2 _ _ _ e2
        go_wp2_with fail
        go_roundw
        case rel => exact ⟨K + 1, by omega, by go_num, hn2, B2⟩
        case measure => simp [intOf]; omega
      · obtain rfl : K = J := by omega
        rcases HV.out with ⟨_, hx⟩ | ⟨rfl, _, h3⟩
        · omega
        · have h3' : ¬ VEdge N ⟨(E K).f, (E K).t, (E K).c⟩ := h3
          clear h3
          generalize (E K).f = ef at *
          generalize (E K).t = et at *
          generalize (E K).c = ec at *
          have c0 := hn2.c0
          have y0 := cell_of_row _ _ 0 _ _ _ e2
          have y1 := cell_of_row _ _ 1 _ _ _ e2
          have y2 := cell_of_row _ _ 2 _ _ _ e2
          clear HV HZ HZK HH
          by_cases h0 : ef < 0
          · have q0 : decide (ef < 0) = true := decide_eq_true h0
            clear h3'
            go_wp2_with fail
            go_ret
            exact ⟨rfl, B2⟩
          · have q0 : decide (ef < 0) = false := decide_eq_false h0
            by_cases h1 : N ≤ ef
            · have q1 : decide (N ≤ ef) = true := decide_eq_true h1
              clear h3'
              go_wp2_with fail
              go_ret
              exact ⟨rfl, B2⟩
            · have q1 : decide (N ≤ ef) = false := decide_eq_false h1
              by_cases h2 : et < 0
              · have q2 : decide (et < 0) = true := decide_eq_true h2
                clear h3'
                go_wp2_with fail
                go_ret
                exact ⟨rfl, B2⟩
              · have q2 : decide (et < 0) = false := decide_eq_false h2
                by_cases h3 : N ≤ et
                · have q3 : decide (N ≤ et) = true := decide_eq_true h3
                  clear h3'
                  go_wp2_with fail
                  go_ret
                  exact ⟨rfl, B2⟩
                · have q3 : decide (N ≤ et) = false := decide_eq_false h3
                  by_cases h4 : ef = et
                  · subst h4
                    have q4 : (ef == ef) = true := by simp
                    clear h3'
                    go_wp2_with fail
                    go_ret
                    exact ⟨rfl, B2⟩
                  · have q4 : (ef == et) = false := beq_false_of_ne h4
                    by_cases h5 : ec < 0
                    · have q5 : decide (ec < 0) = true := decide_eq_true h5
                      clear h3'
                      go_wp2_with fail
                      go_ret
                      exact ⟨rfl, B2⟩
                    · have q5 : decide (ec < 0) = false := decide_eq_false h5
                      by_cases h6 : 1125899906842624 < ec
                      · have q6 : decide (1125899906842624 < ec) = true := decide_eq_true h6
                        clear h3'
                        go_wp2_with fail
                        go_ret
                        exact ⟨rfl, B2⟩
                      · have q6 : decide (1125899906842624 < ec) = false := decide_eq_false h6
                        exact absurd ⟨⟨h4, ⟨Int.not_lt.1 h0, Int.not_le.1 h1⟩, Int.not_lt.1 h2, Int.not_le.1 h3⟩, Int.not_lt.1 h5, Int.not_lt.1 h6⟩ h3'
    · rcases HV.out with ⟨rfl, hx⟩ | ⟨_, hx, _⟩
      · have HJ := Lib.hid hx; clear hx
        have q0 : decide ((K : Int) < (m : Int)) = false := decide_eq_false (by omega)
        go_wp2_with fail
        go_ret
        exact ⟨rfl, hB⟩
      · omega
theorem refValid_y (N : Int) (A : Option Addr) (m c : Nat) (E : Nat → EdgeD) (w : World) (h : Edges w A m E) (hv : VNet N m E) :
    Calls Try.prog 13 #[.agg #[.int .i64 N, .slice A m c]] w fun e w' => e = .returned (.bool true) ∧ Below w.heap.size w w' :=
  refValid_any N A m c E m true w h hv.1 hv.2.1 hv.2.2.1 (Nat.le_refl _) hv.2.2.2 (Or.inl ⟨rfl, rfl⟩)
theorem refValid_n (N : Int) (A : Option Addr) (m c : Nat) (E : Nat → EdgeD) (w : World) (h : Edges w A m E) (hv : ¬ VNet N m E) :
    Calls Try.prog 13 #[.agg #[.int .i64 N, .slice A m c]] w fun e w' => e = .returned (.bool false) ∧ Below w.heap.size w w' := by
  have n0 := netAt_new w N A m c
  have c0 := n0.c0
  have c1 := n0.c1
  by_cases h1 : N < 1
  · have d1 : decide (N < 1) = true := decide_eq_true h1
    clear hv
    go_enter Try.func13, Try.ntmps13
    go_wp2_with fail
    go_ret
    exact ⟨rfl, below_new _ _⟩
  · have d1 : decide (N < 1) = false := decide_eq_false h1
    by_cases h2 : 512 < N
    · have d2 : decide (512 < N) = true := decide_eq_true h2
      clear hv
      go_enter Try.func13, Try.ntmps13
      go_wp2_with fail
      go_ret
      exact ⟨rfl, below_new _ _⟩
    · have d2 : decide (512 < N) = false := decide_eq_false h2
      by_cases h3 : 2000 < m
      · have d3 : decide (2000 < (m : Int)) = true := decide_eq_true (by omega)
        clear hv
        go_enter Try.func13, Try.ntmps13
        go_wp2_with fail
        go_ret
        exact ⟨rfl, below_new _ _⟩
      · obtain ⟨J, h4, h5, h6⟩ := first_not (p := fun k => VEdge N (E k)) (n := m) (fun hh => hv ⟨by omega, by omega, by omega, hh⟩)
        exact refValid_any N A m c E J false w h (by omega) (by omega) (by omega) (by omega) h6 (Or.inr ⟨rfl, h4, h5⟩)
theorem ends_any (N s t : Int) (A : Option Addr) (m c : Nat) (v : Bool) (w : World) (hv : v = true ↔ Pair N s t) :
    Calls Try.prog 17 #[.agg #[.int .i64 N, .slice A m c], .int .i64 s, .int .i64 t] w fun e w' => e = .returned (.bool v) ∧ Below w.heap.size w w' := by
  have c0 := (netAt_new w N A m c).c0
  by_cases h0 : 0 ≤ s
  · have q0 : decide (0 ≤ s) = true := decide_eq_true h0
    by_cases h1 : s < N
    · have q1 : decide (s < N) = true := decide_eq_true h1
      by_cases h2 : 0 ≤ t
      · have q2 : decide (0 ≤ t) = true := decide_eq_true h2
        by_cases h3 : t < N
        · have q3 : decide (t < N) = true := decide_eq_true h3
          by_cases h4 : s ≠ t
          · have q4 : (s != t) = true := bne_iff_ne.2 h4
            obtain rfl : v = true := hv.2 ⟨h4, ⟨h0, h1⟩, h2, h3⟩
            clear hv
            go_enter Try.func17, Try.ntmps17
            go_wp2_with fail
            go_ret
            exact ⟨rfl, below_new _ _⟩
          · have q4 : (s != t) = false := by simpa using h4
            obtain rfl : v = false := by cases v with | false => rfl | true => exact absurd (hv.1 rfl) (fun hp => h4 hp.1)
            clear hv
            go_enter Try.func17, Try.ntmps17
            go_wp2_with fail
            go_ret
            exact ⟨rfl, below_new _ _⟩
        · have q3 : decide (t < N) = false := decide_eq_false h3
          obtain rfl : v = false := by cases v with | false => rfl | true => exact absurd (hv.1 rfl) (fun hp => h3 hp.2.2.2)
          clear hv
          go_enter Try.func17, Try.ntmps17
          go_wp2_with fail
          go_ret
          exact ⟨rfl, below_new _ _⟩
      · have q2 : decide (0 ≤ t) = false := decide_eq_false h2
        obtain rfl : v = false := by cases v with | false => rfl | true => exact absurd (hv.1 rfl) (fun hp => h2 hp.2.2.1)
        clear hv
        go_enter Try.func17, Try.ntmps17
        go_wp2_with fail
        go_ret
        exact ⟨rfl, below_new _ _⟩
    · have q1 : decide (s < N) = false := decide_eq_false h1
      obtain rfl : v = false := by cases v with | false => rfl | true => exact absurd (hv.1 rfl) (fun hp => h1 hp.2.1.2)
      clear hv
      go_enter Try.func17, Try.ntmps17
      go_wp2_with fail
      go_ret
      exact ⟨rfl, below_new _ _⟩
  · have q0 : decide (0 ≤ s) = false := decide_eq_false h0
    obtain rfl : v = false := by cases v with | false => rfl | true => exact absurd (hv.1 rfl) (fun hp => h0 hp.2.1.1)
    clear hv
    go_enter Try.func17, Try.ntmps17
    go_wp2_with fail
    go_ret
    exact ⟨rfl, below_new _ _⟩
end Go.Proofs.Ytjdceafkcakbjaa
