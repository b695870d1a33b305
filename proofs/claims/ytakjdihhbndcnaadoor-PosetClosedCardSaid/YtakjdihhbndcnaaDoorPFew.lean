/- The laws own few; slices.Equal. -/
import Derived.Test.YtakjdihhbndcnaaDoorPCov
namespace Go.Proofs.YtakjdihhbndcnaaDoor
open Go.RowKit
theorem long_no (N : Int) (A : Option Addr) (l c : Nat) (w : World) (h : l ≤ 10) : Calls Tryd.prog 46 #[.agg #[.int .i64 N, .slice A l c]] w fun e w' => e = .returned (.bool false) ∧ Below w.heap.size w w' := by
  have hd : decide (10 < (l : Int)) = false := decide_eq_false (by omega)
  go_enter Tryd.func46, Tryd.ntmps46
  go_wp2
  go_ret
  exact ⟨rfl, (Below.refl _ _).alloc (Nat.le_refl _) _⟩
theorem long_yes (N : Int) (A : Option Addr) (l c : Nat) (w : World) (h : 10 < l) : Calls Tryd.prog 46 #[.agg #[.int .i64 N, .slice A l c]] w fun e w' => e = .returned (.bool true) ∧ Below w.heap.size w w' := by
  have hd : decide (10 < (l : Int)) = true := decide_eq_true (by omega)
  go_enter Tryd.func46, Tryd.ntmps46
  go_wp2
  go_ret
  exact ⟨rfl, (Below.refl _ _).alloc (Nat.le_refl _) _⟩
theorem index_long (A : Option Addr) (n c : Nat) (R : Nat → RowD) (J : Nat) (r : Int) (w : World) (h : Rel w A n R) (hn : n ≤ 1000000) (hJ : J ≤ n)
    (hz : ∀ k, k < J → (R k).l ≤ 10) (hr : (r = -1 ∧ J = n) ∨ (r = J ∧ J < n ∧ 10 < (R J).l)) :
    Calls Tryd.prog 77 #[.slice A n c, .func (Fn.func 46) #[] #[]] w fun e w' => e = .returned (.int .i64 r) ∧ Below w.heap.size w w' := by
  have HH := Lib.hid h; clear h
  have HZ := Lib.hid hz; clear hz
  have HR := Lib.hid hr; clear hr
  go_enter Tryd.func77, Tryd.ntmps77
  go_wp2_with fail
  go_loopw [5, 8] (fun x i wr => ∃ K : Nat, K ≤ J ∧ i = .int .i64 K ∧ Below w.heap.size w wr) (fun _ i _ => J - (intOf i).toNat)
  case atStart => exact ⟨0, by omega, rfl, Below.refl _ _⟩
  case round =>
    obtain ⟨K, hK, rfl, hB⟩ := hrel
    by_cases hlt : K < n
    · obtain ⟨b, off, rfl, hbl, hcz⟩ := (HH.out.below hB) (by omega)
      obtain ⟨x0, x1, _⟩ := hcz K hlt
      clear hcz hbl
      by_cases hKJ : K < J
      · have HX := Lib.hid (HZ.out K hKJ)
        go_wp2_with fail
        refine (long_no _ _ _ _ _ HX.out).mono ?_; rintro e w2 ⟨rfl, b2⟩
        go_wp2_with fail
        go_roundw
        case rel => exact ⟨K + 1, by omega, by go_num, below_next hB b2⟩
        case measure => simp [intOf]; omega
      · obtain rfl : K = J := by omega
        rcases HR.out with ⟨_, h2⟩ | ⟨rfl, _, h3⟩
        · omega
        · have HX := Lib.hid h3; clear h3
          go_wp2_with fail
          refine (long_yes _ _ _ _ _ HX.out).mono ?_; rintro e w2 ⟨rfl, b2⟩
          go_wp2_with fail
          go_ret
          exact ⟨rfl, below_next hB b2⟩
    · rcases HR.out with ⟨rfl, h2⟩ | ⟨_, h2, _⟩
      · have HJ := Lib.hid h2; clear h2
        go_wp2_with fail
        go_ret
        exact ⟨rfl, hB⟩
      · omega
theorem contains_long (A : Option Addr) (n c : Nat) (R : Nat → RowD) (v : Bool) (w : World) (h : Rel w A n R) (hn : n ≤ 1000000) (hv : (v = true ∧ ∃ k, k < n ∧ 10 < (R k).l) ∨ (v = false ∧ ∀ k, k < n → (R k).l ≤ 10)) :
    Calls Tryd.prog 45 #[.slice A n c, .func (Fn.func 46) #[] #[]] w fun e w' => e = .returned (.bool v) ∧ Below w.heap.size w w' := by
  have HH := Lib.hid h; clear h
  rcases hv with ⟨rfl, k, hk, hk2⟩ | ⟨rfl, hv⟩
  · obtain ⟨J, hJ, hJ2, hJ3⟩ := first_bad (p := fun k => (R k).l ≤ 10) (n := n) (fun hall => by have := hall k hk; omega)
    have H2 : Hid (10 < (R J).l) := by show _ < _; omega
    have H3 := Lib.hid hJ3
    clear hJ2 hJ3 hk2
    go_enter Tryd.func45, Tryd.ntmps45
    go_wp2_with fail
    refine (index_long A n c R J J _ HH.out hn (by omega) H3.out (Or.inr ⟨rfl, hJ, H2.out⟩)).mono ?_; rintro e w2 ⟨rfl, b2⟩
    go_wp2_with fail
    go_ret
    exact ⟨rfl, b2⟩
  · have HV := Lib.hid hv; clear hv
    go_enter Tryd.func45, Tryd.ntmps45
    go_wp2_with fail
    refine (index_long A n c R n (-1) _ HH.out hn (Nat.le_refl _) HV.out (Or.inl ⟨rfl, rfl⟩)).mono ?_; rintro e w2 ⟨rfl, b2⟩
    go_wp2_with fail
    go_ret
    exact ⟨rfl, b2⟩
theorem equal_ints (A B : Option Addr) (n c d : Nat) (z : Nat → Int) (w : World) (ha : Ints w A n z) (hb : Ints w B n z) (hn : n ≤ 1000000) :
    Calls Tryd.prog 31 #[.slice A n c, .slice B n d] w fun e w' => e = .returned (.bool true) ∧ Below w.heap.size w w' := by
  have HA := Lib.hid ha; clear ha
  have HB := Lib.hid hb; clear hb
  have hne : ((n : Int) != (n : Int)) = false := by simp
  go_enter Tryd.func31, Tryd.ntmps31
  go_wp2_with fail
  go_loopw [5, 13] (fun _ i wr => ∃ K : Nat, K ≤ n ∧ i = .int .i64 K ∧ Below w.heap.size w wr) (fun _ i _ => n - (intOf i).toNat)
  case atStart => exact ⟨0, by omega, rfl, Below.refl _ _⟩
  case round =>
    obtain ⟨K, hK, rfl, hW⟩ := hrel
    by_cases hlt : K < n
    · obtain ⟨b1, o1, rfl, _, h1⟩ := HA.out.below hW (by omega)
      obtain ⟨b2, o2, rfl, _, h2⟩ := HB.out.below hW (by omega)
      have x1 := h1 K hlt
      have x2 := h2 K hlt
      have hz : (z K != z K) = false := by simp
      clear h1 h2
      go_wp2_with fail
      go_quiet (fail)
      go_wp2_with fail
      go_roundw
      case rel => exact ⟨K + 1, by omega, by go_num, below_drewN hW _⟩
      case measure => simp [intOf]; omega
    · go_wp2_with fail
      go_ret
      exact ⟨rfl, hW⟩
def Few (n : Nat) (R : Nat → RowD) : Prop := n ≤ 40 ∧ ∀ k, k < n → (R k).l ≤ 10
theorem few_any (A : Option Addr) (n c : Nat) (R : Nat → RowD) (v : Bool) (w : World) (h : Rel w A n R) (hvv : v = true ↔ Few n R) :
    Calls Tryd.prog 12 #[.agg #[.slice A n c]] w fun e w' => e = .returned (.bool v) ∧ Below w.heap.size w w' := by
  have HH := Lib.hid h; clear h
  have b0 : Below w.heap.size w (w.alloc (.cells #[.slice A n c] 24)) := (Below.refl _ _).alloc (Nat.le_refl _) _
  have c0 := (relAt_new w A n c).c0
  by_cases h1 : n ≤ 40
  · have d1 : decide ((n : Int) ≤ 40) = true := decide_eq_true (by omega)
    have HC : Hid (Calls Tryd.prog 45 #[.slice A n c, .func (Fn.func 46) #[] #[]] (w.alloc (.cells #[.slice A n c] 24)) fun e w' => e = .returned (.bool (!v)) ∧ Below (w.alloc (.cells #[.slice A n c] 24)).heap.size (w.alloc (.cells #[.slice A n c] 24)) w') := by
      refine contains_long A n c R (!v) _ (HH.out.below b0) (by omega) ?_
      cases v with
      | true => exact .inr ⟨rfl, (hvv.1 rfl).2⟩
      | false =>
        refine .inl ⟨rfl, Classical.byContradiction fun hc => ?_⟩
        have := hvv.2 ⟨h1, fun k hk => Classical.byContradiction fun h2 => hc ⟨k, hk, by omega⟩⟩
        cases this
    clear hvv h1
    go_enter Tryd.func12, Tryd.ntmps12
    go_wp2_with fail
    refine HC.out.mono ?_; rintro e w2 ⟨rfl, b2⟩
    go_wp2_with fail
    go_ret
    exact ⟨by simp, below_next b0 b2⟩
  · have d1 : decide ((n : Int) ≤ 40) = false := decide_eq_false (by omega)
    have hv0 : v = false := by
      cases v with
      | false => rfl
      | true => exact absurd (hvv.1 rfl).1 h1
    subst hv0
    clear hvv h1
    go_enter Tryd.func12, Tryd.ntmps12
    go_wp2_with fail
    go_ret
    exact ⟨rfl, b0⟩
end Go.Proofs.YtakjdihhbndcnaaDoor
