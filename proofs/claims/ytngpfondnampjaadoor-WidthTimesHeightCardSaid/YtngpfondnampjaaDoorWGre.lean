/- The laws own great. -/
import Derived.Test.YtngpfondnampjaaDoorPCov
namespace Go.Proofs.YtngpfondnampjaaDoor
open Go.RowKit
theorem long_no (N : Int) (A : Option Addr) (l c : Nat) (w : World) (h : l ≤ 20) : Calls Tryd.prog 35 #[.agg #[.int .i64 N, .slice A l c]] w fun e w' => e = .returned (.bool false) ∧ Below w.heap.size w w' := by
  have hd : decide (20 < (l : Int)) = false := decide_eq_false (by omega)
  go_enter Tryd.func35, Tryd.ntmps35
  go_wp2
  go_ret
  exact ⟨rfl, (Below.refl _ _).alloc (Nat.le_refl _) _⟩
theorem long_yes (N : Int) (A : Option Addr) (l c : Nat) (w : World) (h : 20 < l) : Calls Tryd.prog 35 #[.agg #[.int .i64 N, .slice A l c]] w fun e w' => e = .returned (.bool true) ∧ Below w.heap.size w w' := by
  have hd : decide (20 < (l : Int)) = true := decide_eq_true (by omega)
  go_enter Tryd.func35, Tryd.ntmps35
  go_wp2
  go_ret
  exact ⟨rfl, (Below.refl _ _).alloc (Nat.le_refl _) _⟩
theorem index_long (A : Option Addr) (n c : Nat) (R : Nat → RowD) (J : Nat) (r : Int) (w : World) (h : Rel w A n R) (hn : n ≤ 1000000) (hJ : J ≤ n)
    (hz : ∀ k, k < J → (R k).l ≤ 20) (hr : (r = -1 ∧ J = n) ∨ (r = J ∧ J < n ∧ 20 < (R J).l)) :
    Calls Tryd.prog 64 #[.slice A n c, .func (Fn.func 35) #[] #[]] w fun e w' => e = .returned (.int .i64 r) ∧ Below w.heap.size w w' := by
  have HH := Lib.hid h; clear h
  have HZ := Lib.hid hz; clear hz
  have HR := Lib.hid hr; clear hr
  go_enter Tryd.func64, Tryd.ntmps64
  go_wp2_with fail
  go_loopw [5, 8] (fun x i wr => ∃ K : Nat, K ≤ J ∧ i = .int .i64 K ∧ Below w.heap.size w wr) (fun _ i _ => J - (intOf i).toNat)
  case atStart => exact ⟨0, by omega, rfl, Below.refl _ _⟩
  case round =>
    obtain ⟨K, hK, rfl, hB⟩ := hrel
    by_cases hlt : K < n
    · obtain ⟨b, off, rfl, hbl, hcz⟩ := (HH.out.below hB) (by omega)
      obtain ⟨x0, x1, _⟩ := hcz K hlt
      clear hcz hbl
      by_cases hKJ : K < J
      · have HX := Lib.hid (HZ.out K hKJ)
        go_wp2_with fail
        refine (long_no _ _ _ _ _ HX.out).mono ?_; rintro e w2 ⟨rfl, b2⟩
        go_wp2_with fail
        go_roundw
        case rel => exact ⟨K + 1, by omega, by go_num, below_next hB b2⟩
        case measure => simp [intOf]; omega
      · obtain rfl : K = J := by omega
        rcases HR.out with ⟨_, h2⟩ | ⟨rfl, _, h3⟩
        · omega
        · have HX := Lib.hid h3; clear h3
          go_wp2_with fail
          refine (long_yes _ _ _ _ _ HX.out).mono ?_; rintro e w2 ⟨rfl, b2⟩
          go_wp2_with fail
          go_ret
          exact ⟨rfl, below_next hB b2⟩
    · rcases HR.out with ⟨rfl, h2⟩ | ⟨_, h2, _⟩
      · have HJ := Lib.hid h2; clear h2
        go_wp2_with fail
        go_ret
        exact ⟨rfl, hB⟩
      · omega
theorem contains_long (A : Option Addr) (n c : Nat) (R : Nat → RowD) (v : Bool) (w : World) (h : Rel w A n R) (hn : n ≤ 1000000) (hv : (v = true ∧ ∃ k, k < n ∧ 20 < (R k).l) ∨ (v = false ∧ ∀ k, k < n → (R k).l ≤ 20)) :
    Calls Tryd.prog 34 #[.slice A n c, .func (Fn.func 35) #[] #[]] w fun e w' => e = .returned (.bool v) ∧ Below w.heap.size w w' := by
  have HH := Lib.hid h; clear h
  rcases hv with ⟨rfl, k, hk, hk2⟩ | ⟨rfl, hv⟩
  · obtain ⟨J, hJ, hJ2, hJ3⟩ := first_bad (p := fun k => (R k).l ≤ 20) (n := n) (fun hall => by have := hall k hk; omega)
    have H2 : Hid (20 < (R J).l) := by show _ < _; omega
    have H3 := Lib.hid hJ3
    clear hJ2 hJ3 hk2
    go_enter Tryd.func34, Tryd.ntmps34
    go_wp2_with fail
    refine (index_long A n c R J J _ HH.out hn (by omega) H3.out (Or.inr ⟨rfl, hJ, H2.out⟩)).mono ?_; rintro e w2 ⟨rfl, b2⟩
    go_wp2_with fail
    go_ret
    exact ⟨rfl, b2⟩
  · have HV := Lib.hid hv; clear hv
    go_enter Tryd.func34, Tryd.ntmps34
    go_wp2_with fail
    refine (index_long A n c R n (-1) _ HH.out hn (Nat.le_refl _) HV.out (Or.inl ⟨rfl, rfl⟩)).mono ?_; rintro e w2 ⟨rfl, b2⟩
    go_wp2_with fail
    go_ret
    exact ⟨rfl, b2⟩
end Go.Proofs.YtngpfondnampjaaDoor
