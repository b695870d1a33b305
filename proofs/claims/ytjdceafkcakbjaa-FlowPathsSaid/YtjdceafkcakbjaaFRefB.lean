/- The reference's balance, Value, Has, and the law's few. -/
import Derived.Test.YtjdceafkcakbjaaFRef
import Derived.Test.YtjdceafkcakbjaaFIsf
namespace Go.Proofs.Ytjdceafkcakbjaa
open Go.RowKit
theorem balK_at (N : Net) (g : Nat → Int) (K v : Nat) : N.balK g (K + 1) v = N.balK g K v + ((if N.fr K = v then g K else 0) - (if N.tt K = v then g K else 0)) := rfl
set_option maxHeartbeats 4000000 in
theorem balance_any (n m c cl v : Nat) (A L : Option Addr) (E : Nat → EdgeD) (g : Nat → Int) (w : World) (h : Edges w A m E) (hv : VNet n m E) (hL : Ints w L m g) (hg : ∀ i, i < m → 0 ≤ g i ∧ g i ≤ 1125899906842624) :
    Calls Try.prog 50 #[.agg #[.int .i64 n, .slice A m c], .slice L m cl, .int .i64 v] w fun e w' => e = .returned (.int .i64 ((netOf n m E).bal g v)) ∧ Below w.heap.size w w' := by
  have b0 := below_new w (.cells #[.int .i64 n, .slice A m c] 24)
  have c1 := (netAt_new w n A m c).c1
  have HH := Lib.hid (h.below b0); clear h
  have HL := Lib.hid (hL.below b0); clear hL
  have HG := Lib.hid hg; clear hg
  have hm := hv.2.2.1
  have HV := Lib.hid hv; clear hv
  go_enter Try.func50, Try.ntmps50
  go_wp2_with fail
  generalize w.alloc (.cells #[.int .i64 (n : Int), .slice A m c] 24) = W at *
  go_loopw [7, 8] (fun x i wr => ∃ K : Nat, K ≤ m ∧ i = .int .i64 K ∧ x = .int .i64 ((netOf n m E).balK g K v) ∧ W = wr) (fun _ i _ => m - (intOf i).toNat)
  case atStart => exact ⟨0, by omega, rfl, rfl, rfl⟩
  case round =>
    obtain ⟨K, hK, rfl, rfl, rfl⟩ := hrel
    by_cases hlt : K < m
    · obtain ⟨b, off, rfl, hbl, hcz⟩ := HH.out (by omega)
      obtain ⟨x0, x1, x2⟩ := hcz K hlt
      obtain ⟨bL, oL, rfl, hbL0, hcL⟩ := HL.out (by omega)
      have xL := hcL K hlt
      clear hcz hcL x2
      have hne : (netOf n m E).fr K ≠ (netOf n m E).tt K := HV.out.ok.ne K hlt
      rw [HV.out.fr hlt] at x0
      rw [HV.out.tt hlt] at x1
      have hgk := HG.out K hlt
      have hb := Net.balK_bound (netOf n m E) (g := g) (K := K) (fun i hi => HG.out i (by omega)) (by omega) v
      have hstep := Lib.hid (balK_at (netOf n m E) g K v)
      have hwrap : IntKind.i64.wrap ((K : Int) + 1) = (K : Int) + 1 := IntWalk.i64_in _ (by omega)
      generalize (netOf n m E).balK g K v = S at *
      generalize (netOf n m E).fr K = fr at *
      generalize (netOf n m E).tt K = t at *
      generalize g K = gk at *
      have hw1 : IntKind.i64.wrap (S + gk) = S + gk := IntWalk.i64_in _ (by omega)
      have hw2 : IntKind.i64.wrap (S - gk) = S - gk := IntWalk.i64_in _ (by omega)
      by_cases e1 : fr = v
      · have q1 : ((fr : Int) == (v : Int)) = true := by rw [e1]; simp
        have q2 : ((t : Int) == (v : Int)) = false := beq_false_of_ne (by omega)
        have hz : Hid ((netOf n m E).balK g (K + 1) v = S + gk) := by show _ = _; rw [hstep.out, if_pos e1, if_neg (fun e => hne (e1.trans e.symm))]; omega
        clear e1 hstep hne
        go_wp2_with fail
        go_roundw
        case rel => exact ⟨K + 1, by omega, by go_num, by rw [hz.out], trivial⟩
        case measure => simp [intOf]; omega
      · have q1 : ((fr : Int) == (v : Int)) = false := beq_false_of_ne (by omega)
        by_cases e2 : t = v
        · have q2 : ((t : Int) == (v : Int)) = true := by rw [e2]; simp
          have hz : Hid ((netOf n m E).balK g (K + 1) v = S - gk) := by show _ = _; rw [hstep.out, if_neg e1, if_pos e2]; omega
          clear e1 e2 hstep hne
          go_wp2_with fail
          go_roundw
          case rel => exact ⟨K + 1, by omega, by go_num, by rw [hz.out], trivial⟩
          case measure => simp [intOf]; omega
        · have q2 : ((t : Int) == (v : Int)) = false := beq_false_of_ne (by omega)
          have hz : Hid ((netOf n m E).balK g (K + 1) v = S) := by show _ = _; rw [hstep.out, if_neg e1, if_neg e2]; omega
          clear e1 e2 hstep hne
          go_wp2_with fail
          go_roundw
          case rel => exact ⟨K + 1, by omega, by go_num, by rw [hz.out], trivial⟩
          case measure => simp [intOf]; omega
    · obtain rfl : K = m := by omega
      go_wp2_with fail
      go_ret
      exact ⟨rfl, b0⟩
theorem refValue_any (n m c cl s : Nat) (A L : Option Addr) (E : Nat → EdgeD) (g : Nat → Int) (w : World) (h : Edges w A m E) (hv : VNet n m E) (hL : Ints w L m g) (hg : ∀ i, i < m → 0 ≤ g i ∧ g i ≤ 1125899906842624) :
    Calls Try.prog 19 #[.agg #[.int .i64 n, .slice A m c], .int .i64 s, .slice L m cl] w fun e w' => e = .returned (.int .i64 ((netOf n m E).bal g s)) ∧ Below w.heap.size w w' := by
  have b0 := below_new w (.cells #[.int .i64 n, .slice A m c] 24)
  have n0 := netAt_new w n A m c
  have c0 := n0.c0
  have c1 := n0.c1
  have HB := Lib.hid (balance_any n m c cl s A L E g _ (h.below b0) hv (hL.below b0) hg)
  clear h hv hL hg
  go_enter Try.func19, Try.ntmps19
  go_wp2_with fail
  refine HB.out.mono ?_; rintro e w1 ⟨rfl, b1⟩
  go_wp2_with fail
  go_ret
  exact ⟨rfl, below_next b0 b1⟩
/- few -/
def Few (N : Int) (m : Nat) : Prop := (N ≤ 60 ∨ 512 < N) ∧ (m ≤ 100 ∨ (2000 < m ∧ m < 2100))
theorem few_any (N : Int) (A : Option Addr) (m c : Nat) (v : Bool) (w : World) (hv : v = true ↔ Few N m) :
    Calls Try.prog 11 #[.agg #[.int .i64 N, .slice A m c]] w fun e w' => e = .returned (.bool v) ∧ Below w.heap.size w w' := by
  have n0 := netAt_new w N A m c
  have c0 := n0.c0
  have c1 := n0.c1
  have b0 := below_new w (.cells #[.int .i64 N, .slice A m c] 24)
  by_cases h1 : N ≤ 60
  · have q1 : decide (N ≤ 60) = true := decide_eq_true h1
    by_cases k1 : m ≤ 100
    · have r1 : decide ((m : Int) ≤ 100) = true := decide_eq_true (by omega)
      obtain rfl : v = true := hv.2 ⟨Or.inl h1, Or.inl k1⟩
      clear hv
      go_enter Try.func11, Try.ntmps11
      go_wp2_with fail
      go_ret
      exact ⟨rfl, b0⟩
    · have r1 : decide ((m : Int) ≤ 100) = false := decide_eq_false (by omega)
      by_cases k2 : 2000 < m
      · have r2 : decide (2000 < (m : Int)) = true := decide_eq_true (by omega)
        by_cases k3 : m < 2100
        · have r3 : decide ((m : Int) < 2100) = true := decide_eq_true (by omega)
          obtain rfl : v = true := hv.2 ⟨Or.inl h1, Or.inr ⟨k2, k3⟩⟩
          clear hv
          go_enter Try.func11, Try.ntmps11
          go_wp2_with fail
          go_ret
          exact ⟨rfl, b0⟩
        · have r3 : decide ((m : Int) < 2100) = false := decide_eq_false (by omega)
          obtain rfl : v = false := by cases v with | false => rfl | true => exact absurd (hv.1 rfl) (fun hf => by have h1 := hf.1; have h2 := hf.2; omega)
          clear hv
          go_enter Try.func11, Try.ntmps11
          go_wp2_with fail
          go_ret
          exact ⟨rfl, b0⟩
      · have r2 : decide (2000 < (m : Int)) = false := decide_eq_false (by omega)
        obtain rfl : v = false := by cases v with | false => rfl | true => exact absurd (hv.1 rfl) (fun hf => by have h1 := hf.1; have h2 := hf.2; omega)
        clear hv
        go_enter Try.func11, Try.ntmps11
        go_wp2_with fail
        go_ret
        exact ⟨rfl, b0⟩
  · have q1 : decide (N ≤ 60) = false := decide_eq_false h1
    by_cases h2 : 512 < N
    · have q2 : decide (512 < N) = true := decide_eq_true h2
      by_cases k1 : m ≤ 100
      · have r1 : decide ((m : Int) ≤ 100) = true := decide_eq_true (by omega)
        obtain rfl : v = true := hv.2 ⟨Or.inr h2, Or.inl k1⟩
        clear hv
        go_enter Try.func11, Try.ntmps11
        go_wp2_with fail
        go_ret
        exact ⟨rfl, b0⟩
      · have r1 : decide ((m : Int) ≤ 100) = false := decide_eq_false (by omega)
        by_cases k2 : 2000 < m
        · have r2 : decide (2000 < (m : Int)) = true := decide_eq_true (by omega)
          by_cases k3 : m < 2100
          · have r3 : decide ((m : Int) < 2100) = true := decide_eq_true (by omega)
            obtain rfl : v = true := hv.2 ⟨Or.inr h2, Or.inr ⟨k2, k3⟩⟩
            clear hv
            go_enter Try.func11, Try.ntmps11
            go_wp2_with fail
            go_ret
            exact ⟨rfl, b0⟩
          · have r3 : decide ((m : Int) < 2100) = false := decide_eq_false (by omega)
            obtain rfl : v = false := by cases v with | false => rfl | true => exact absurd (hv.1 rfl) (fun hf => by have h1 := hf.1; have h2 := hf.2; omega)
            clear hv
            go_enter Try.func11, Try.ntmps11
            go_wp2_with fail
            go_ret
            exact ⟨rfl, b0⟩
        · have r2 : decide (2000 < (m : Int)) = false := decide_eq_false (by omega)
          obtain rfl : v = false := by cases v with | false => rfl | true => exact absurd (hv.1 rfl) (fun hf => by have h1 := hf.1; have h2 := hf.2; omega)
          clear hv
          go_enter Try.func11, Try.ntmps11
          go_wp2_with fail
          go_ret
          exact ⟨rfl, b0⟩
    · have q2 : decide (512 < N) = false := decide_eq_false h2
      obtain rfl : v = false := by cases v with | false => rfl | true => exact absurd (hv.1 rfl) (fun hf => by have h1 := hf.1; have h2 := hf.2; omega)
      clear hv
      go_enter Try.func11, Try.ntmps11
      go_wp2_with fail
      go_ret
      exact ⟨rfl, b0⟩
end Go.Proofs.Ytjdceafkcakbjaa
