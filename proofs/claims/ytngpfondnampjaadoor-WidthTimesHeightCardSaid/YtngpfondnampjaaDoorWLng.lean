/- The laws own long and great. -/
import Derived.Test.YtngpfondnampjaaDoorWPar
import Derived.Test.YtngpfondnampjaaDoorWGre
namespace Go.Proofs.YtngpfondnampjaaDoor
open Go.RowKit
theorem ll_any (A : Option Addr) (m c : Nat) (v : Bool) (w : World) (h : v = decide (60 < (m : Int))) : Calls Tryd.prog 37 #[.slice A m c] w fun e w' => e = .returned (.bool v) ∧ Below w.heap.size w w' := by
  have hd : decide (60 < (m : Int)) = v := h.symm
  clear h
  go_enter Tryd.func37, Tryd.ntmps37
  go_wp2_with fail
  go_ret
  exact ⟨by first | rfl | rw [hd], Below.refl _ _⟩
theorem index_ll (A : Option Addr) (n c : Nat) (B : Nat → LsD) (J : Nat) (r : Int) (w : World) (h : Lss w A n B) (hn : n ≤ 1000000) (hJ : J ≤ n)
    (hz : ∀ k, k < J → (B k).m ≤ 60) (hr : (r = -1 ∧ J = n) ∨ (r = J ∧ J < n ∧ 60 < (B J).m)) :
    Calls Tryd.prog 65 #[.slice A n c, .func (Fn.func 37) #[] #[]] w fun e w' => e = .returned (.int .i64 r) ∧ Below w.heap.size w w' := by
  have HH := Lib.hid h; clear h
  have HZ := Lib.hid hz; clear hz
  have HR := Lib.hid hr; clear hr
  go_enter Tryd.func65, Tryd.ntmps65
  go_wp2_with fail
  go_loopw [5, 8] (fun x i wr => ∃ K : Nat, K ≤ J ∧ i = .int .i64 K ∧ Below w.heap.size w wr) (fun _ i _ => J - (intOf i).toNat)
  case atStart => exact ⟨0, by omega, rfl, Below.refl _ _⟩
  case round =>
    obtain ⟨K, hK, rfl, hB⟩ := hrel
    by_cases hlt : K < n
    · obtain ⟨b, off, rfl, hbl, hcz⟩ := (HH.out.below hB) (by omega)
      obtain ⟨x0, _⟩ := hcz K hlt
      clear hcz hbl
      by_cases hKJ : K < J
      · have HX := Lib.hid (HZ.out K hKJ)
        go_wp2_with fail
        refine (ll_any _ _ _ false _ (by have := HX.out; exact (decide_eq_false (by omega)).symm)).mono ?_; rintro e w2 ⟨rfl, b2⟩
        go_wp2_with fail
        go_roundw
        case rel => exact ⟨K + 1, by omega, by go_num, below_next hB b2⟩
        case measure => simp [intOf]; omega
      · obtain rfl : K = J := by omega
        rcases HR.out with ⟨_, h2⟩ | ⟨rfl, _, h3⟩
        · omega
        · have HX := Lib.hid h3; clear h3
          go_wp2_with fail
          refine (ll_any _ _ _ true _ (by have := HX.out; exact (decide_eq_true (by omega)).symm)).mono ?_; rintro e w2 ⟨rfl, b2⟩
          go_wp2_with fail
          go_ret
          exact ⟨rfl, below_next hB b2⟩
    · rcases HR.out with ⟨rfl, h2⟩ | ⟨_, h2, _⟩
      · have HJ := Lib.hid h2; clear h2
        go_wp2_with fail
        go_ret
        exact ⟨rfl, hB⟩
      · omega
theorem contains_ll (A : Option Addr) (n c : Nat) (B : Nat → LsD) (v : Bool) (w : World) (h : Lss w A n B) (hn : n ≤ 1000000) (hv : v = true ↔ ∃ k, k < n ∧ 60 < (B k).m) :
    Calls Tryd.prog 36 #[.slice A n c, .func (Fn.func 37) #[] #[]] w fun e w' => e = .returned (.bool v) ∧ Below w.heap.size w w' := by
  cases v with
  | true =>
    obtain ⟨k, hk, hk2⟩ := hv.1 rfl
    obtain ⟨J, hJ, hJ2, hJ3⟩ := first_bad (p := fun k => (B k).m ≤ 60) (n := n) (fun hall => by have := hall k hk; omega)
    have HC := Lib.hid (index_ll A n c B J J w h hn (by omega) hJ3 (Or.inr ⟨rfl, hJ, by omega⟩))
    clear hJ2 hJ3 hk2 h hv
    go_enter Tryd.func36, Tryd.ntmps36
    go_wp2_with fail
    refine HC.out.mono ?_; rintro e w2 ⟨rfl, b2⟩
    go_wp2_with fail
    go_ret
    exact ⟨rfl, b2⟩
  | false =>
    have HC := Lib.hid (index_ll A n c B n (-1) w h hn (Nat.le_refl _) (fun k hk => Classical.byContradiction fun hc => by have := hv.2 ⟨k, hk, by omega⟩; cases this) (Or.inl ⟨rfl, rfl⟩))
    clear h hv
    go_enter Tryd.func36, Tryd.ntmps36
    go_wp2_with fail
    refine HC.out.mono ?_; rintro e w2 ⟨rfl, b2⟩
    go_wp2_with fail
    go_ret
    exact ⟨rfl, b2⟩
def LongP (n : Nat) (B : Nat → LsD) : Prop := 60 < n ∨ ∃ k, k < n ∧ 60 < (B k).m
theorem llong_any (A : Option Addr) (n c : Nat) (B : Nat → LsD) (v : Bool) (w : World) (h : Lss w A n B) (hn : n ≤ 1000000) (hv : v = true ↔ LongP n B) :
    Calls Tryd.prog 10 #[.slice A n c] w fun e w' => e = .returned (.bool v) ∧ Below w.heap.size w w' := by
  have HV := Lib.hid hv
  by_cases h6 : 60 < n
  · have d1 : decide (60 < (n : Int)) = true := decide_eq_true (by omega)
    obtain rfl : v = true := hv.2 (.inl h6)
    clear hv h6 h
    go_enter Tryd.func10, Tryd.ntmps10
    go_wp2_with fail
    go_ret
    exact ⟨rfl, Below.refl _ _⟩
  · have d1 : decide (60 < (n : Int)) = false := decide_eq_false (by omega)
    have HC := Lib.hid (contains_ll A n c B v w h hn (hv.trans ⟨fun h => h.resolve_left h6, fun h => .inr h⟩))
    clear hv h6 h
    go_enter Tryd.func10, Tryd.ntmps10
    go_wp2_with fail
    refine HC.out.mono ?_; rintro e w2 ⟨rfl, b2⟩
    go_wp2_with fail
    go_ret
    exact ⟨rfl, b2⟩
def GreatP (n : Nat) (R : Nat → RowD) : Prop := (70 < n ∧ n ≤ 512) ∨ 520 < n ∨ ∃ k, k < n ∧ 20 < (R k).l
theorem great_any (A : Option Addr) (n c : Nat) (R : Nat → RowD) (v : Bool) (w : World) (h : Rel w A n R) (hn : n ≤ 1000000) (hv : v = true ↔ GreatP n R) :
    Calls Tryd.prog 9 #[.agg #[.slice A n c]] w fun e w' => e = .returned (.bool v) ∧ Below w.heap.size w w' := by
  have HV := Lib.hid hv
  have r0 := relAt_new w A n c
  have b0 := below_new w (.cells #[.slice A n c] 24)
  have c0 := r0.c0
  obtain ⟨x1, h1⟩ : ∃ x, decide (70 < (n : Int)) = x := ⟨_, rfl⟩
  obtain ⟨x2, h2⟩ : ∃ x, decide ((n : Int) ≤ 512) = x := ⟨_, rfl⟩
  obtain ⟨x3, h3⟩ : ∃ x, decide (520 < (n : Int)) = x := ⟨_, rfl⟩
  by_cases hA : 70 < n ∧ n ≤ 512
  · obtain rfl : v = true := hv.2 (.inl hA)
    obtain rfl : x1 = true := by rw [← h1]; exact decide_eq_true (by omega)
    obtain rfl : x2 = true := by rw [← h2]; exact decide_eq_true (by omega)
    clear hv h h3 hA
    go_enter Tryd.func9, Tryd.ntmps9
    go_wp2_with fail
    go_ret
    exact ⟨rfl, b0⟩
  · by_cases hB : 520 < n
    · obtain rfl : v = true := hv.2 (.inr (.inl hB))
      obtain rfl : x1 = true := by rw [← h1]; exact decide_eq_true (by omega)
      obtain rfl : x2 = false := by rw [← h2]; exact decide_eq_false (by omega)
      obtain rfl : x3 = true := by rw [← h3]; exact decide_eq_true (by omega)
      clear hv h hA hB
      go_enter Tryd.func9, Tryd.ntmps9
      go_wp2_with fail
      go_ret
      exact ⟨rfl, b0⟩
    · have HC := Lib.hid (contains_long A n c R v (w.alloc (.cells #[.slice A n c] 24)) (h.below b0) hn (by
        cases hc : v with
        | true => exact .inl ⟨rfl, ((hv.1 hc).resolve_left hA).resolve_left hB⟩
        | false => exact .inr ⟨rfl, fun k hk => Classical.byContradiction fun hk2 => by have := hv.2 (.inr (.inr ⟨k, hk, by omega⟩)); rw [hc] at this; cases this⟩))
      obtain rfl : x3 = false := by rw [← h3]; exact decide_eq_false (by omega)
      have h12 : x1 = false ∨ x1 = true ∧ x2 = false := by
        by_cases h7 : 70 < n
        · exact .inr ⟨by rw [← h1]; exact decide_eq_true (by omega), by rw [← h2]; exact decide_eq_false (by omega)⟩
        · exact .inl (by rw [← h1]; exact decide_eq_false (by omega))
      clear hv h hA hB
      rcases h12 with rfl | ⟨rfl, rfl⟩
      · clear h2
        go_enter Tryd.func9, Tryd.ntmps9
        go_wp2_with fail
        refine HC.out.mono ?_; rintro e w2 ⟨rfl, b2⟩
        go_wp2_with fail
        go_ret
        exact ⟨rfl, below_next b0 b2⟩
      · go_enter Tryd.func9, Tryd.ntmps9
        go_wp2_with fail
        refine HC.out.mono ?_; rintro e w2 ⟨rfl, b2⟩
        go_wp2_with fail
        go_ret
        exact ⟨rfl, below_next b0 b2⟩
end Go.Proofs.YtngpfondnampjaaDoor
