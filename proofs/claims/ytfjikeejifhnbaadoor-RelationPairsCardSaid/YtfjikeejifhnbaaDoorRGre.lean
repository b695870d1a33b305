/- The laws' own great: relations that are too large for a law to look at. -/
import Derived.Test.YtfjikeejifhnbaaDoorRSame
namespace Go.Proofs.YtfjikeejifhnbaaDoor
open Go.RowKit
def Great (n : Nat) (R : Nat → RowD) : Prop := (40 < n ∧ n ≤ 512) ∨ 520 < n ∨ ∃ k, k < n ∧ 20 < (R k).l
theorem long_no (N : Int) (A : Option Addr) (l c : Nat) (w : World) (h : l ≤ 20) : Calls Tryd.prog 42 #[.agg #[.int .i64 N, .slice A l c]] w fun e w' => e = .returned (.bool false) ∧ Below w.heap.size w w' := by
  have hd : decide (20 < (l : Int)) = false := decide_eq_false (by omega)
  go_enter Tryd.func42, Tryd.ntmps42
  go_wp2
  go_ret
  exact ⟨rfl, (Below.refl _ _).alloc (Nat.le_refl _) _⟩
theorem long_yes (N : Int) (A : Option Addr) (l c : Nat) (w : World) (h : 20 < l) : Calls Tryd.prog 42 #[.agg #[.int .i64 N, .slice A l c]] w fun e w' => e = .returned (.bool true) ∧ Below w.heap.size w w' := by
  have hd : decide (20 < (l : Int)) = true := decide_eq_true (by omega)
  go_enter Tryd.func42, Tryd.ntmps42
  go_wp2
  go_ret
  exact ⟨rfl, (Below.refl _ _).alloc (Nat.le_refl _) _⟩
theorem index_long (A : Option Addr) (n c : Nat) (R : Nat → RowD) (J : Nat) (r : Int) (w : World) (h : Rel w A n R) (hn : n ≤ 1000000) (hJ : J ≤ n)
    (hz : ∀ k, k < J → (R k).l ≤ 20) (hr : (r = -1 ∧ J = n) ∨ (r = J ∧ J < n ∧ 20 < (R J).l)) :
    Calls Tryd.prog 57 #[.slice A n c, .func (Fn.func 42) #[] #[]] w fun e w' => e = .returned (.int .i64 r) ∧ Below w.heap.size w w' := by
  have HH := Lib.hid h; clear h
  have HZ := Lib.hid hz; clear hz
  have HR := Lib.hid hr; clear hr
  go_enter Tryd.func57, Tryd.ntmps57
  go_wp2_with fail
  go_loopw [5, 8] (fun x i wr => ∃ K : Nat, K ≤ J ∧ i = .int .i64 K ∧ Below w.heap.size w wr) (fun _ i _ => J - (intOf i).toNat)
  case atStart => exact ⟨0, by omega, rfl, Below.refl _ _⟩
  case round =>
    obtain ⟨K, hK, rfl, hB⟩ := hrel
    by_cases hlt : K < n
    · obtain ⟨b, off, rfl, hbl, hcz⟩ := (HH.out.below hB) (by omega)
      obtain ⟨x0, x1, _⟩ := hcz K hlt
      clear hcz hbl
      by_cases hKJ : K < J
      · have HX := Lib.hid (HZ.out K hKJ)
        go_wp2_with fail
        refine (long_no _ _ _ _ _ HX.out).mono ?_; rintro e w2 ⟨rfl, b2⟩
        go_wp2_with fail
        go_roundw
        case rel => exact ⟨K + 1, by omega, by go_num, below_next hB b2⟩
        case measure => simp [intOf]; omega
      · obtain rfl : K = J := by omega
        rcases HR.out with ⟨_, h2⟩ | ⟨rfl, _, h3⟩
        · omega
        · have HX := Lib.hid h3; clear h3
          go_wp2_with fail
          refine (long_yes _ _ _ _ _ HX.out).mono ?_; rintro e w2 ⟨rfl, b2⟩
          go_wp2_with fail
          go_ret
          exact ⟨rfl, below_next hB b2⟩
    · rcases HR.out with ⟨rfl, h2⟩ | ⟨_, h2, _⟩
      · have HJ := Lib.hid h2; clear h2
        go_wp2_with fail
        go_ret
        exact ⟨rfl, hB⟩
      · omega
theorem contains_long (A : Option Addr) (n c : Nat) (R : Nat → RowD) (v : Bool) (w : World) (h : Rel w A n R) (hn : n ≤ 1000000) (hv : (v = true ∧ ∃ k, k < n ∧ 20 < (R k).l) ∨ (v = false ∧ ∀ k, k < n → (R k).l ≤ 20)) :
    Calls Tryd.prog 41 #[.slice A n c, .func (Fn.func 42) #[] #[]] w fun e w' => e = .returned (.bool v) ∧ Below w.heap.size w w' := by
  have HH := Lib.hid h; clear h
  rcases hv with ⟨rfl, k, hk, hk2⟩ | ⟨rfl, hv⟩
  · obtain ⟨J, hJ, hJ2, hJ3⟩ := first_bad (p := fun k => (R k).l ≤ 20) (n := n) (fun hall => by have := hall k hk; omega)
    have H2 : Hid (20 < (R J).l) := by show _ < _; omega
    have H3 := Lib.hid hJ3
    clear hJ2 hJ3 hk2
    go_enter Tryd.func41, Tryd.ntmps41
    go_wp2_with fail
    refine (index_long A n c R J J _ HH.out hn (by omega) H3.out (Or.inr ⟨rfl, hJ, H2.out⟩)).mono ?_; rintro e w2 ⟨rfl, b2⟩
    go_wp2_with fail
    go_ret
    exact ⟨rfl, b2⟩
  · have HV := Lib.hid hv; clear hv
    go_enter Tryd.func41, Tryd.ntmps41
    go_wp2_with fail
    refine (index_long A n c R n (-1) _ HH.out hn (Nat.le_refl _) HV.out (Or.inl ⟨rfl, rfl⟩)).mono ?_; rintro e w2 ⟨rfl, b2⟩
    go_wp2_with fail
    go_ret
    exact ⟨rfl, b2⟩
theorem great1_yes (A : Option Addr) (n c : Nat) (R : Nat → RowD) (w : World) (h : Rel w A n R) (hg : Great n R) :
    Calls Tryd.prog 40 #[.agg #[.slice A n c]] w fun e w' => e = .returned (.bool true) ∧ Below w.heap.size w w' := by
  have HH := Lib.hid h; clear h
  have b0 : Below w.heap.size w (w.alloc (.cells #[.slice A n c] 24)) := (Below.refl _ _).alloc (Nat.le_refl _) _
  have c0 := (relAt_new w A n c).c0
  by_cases h1 : 40 < n ∧ n ≤ 512
  · have d1 : decide (40 < (n : Int)) = true := decide_eq_true (by omega)
    have d2 : decide ((n : Int) ≤ 512) = true := decide_eq_true (by omega)
    clear hg h1
    go_enter Tryd.func40, Tryd.ntmps40
    go_wp2_with fail
    go_ret
    exact ⟨rfl, b0⟩
  · by_cases h2 : 520 < n
    · have d1 : decide (40 < (n : Int)) = true := decide_eq_true (by omega)
      have d2 : decide ((n : Int) ≤ 512) = false := decide_eq_false (by omega)
      have d3 : decide (520 < (n : Int)) = true := decide_eq_true (by omega)
      clear hg h1
      go_enter Tryd.func40, Tryd.ntmps40
      go_wp2_with fail
      go_ret
      exact ⟨rfl, b0⟩
    · have hex : ∃ k, k < n ∧ 20 < (R k).l := by
        rcases hg with h | h | h
        · exact absurd h h1
        · exact absurd h h2
        · exact h
      have HEX := Lib.hid hex
      have d3 : decide (520 < (n : Int)) = false := decide_eq_false (by omega)
      clear hg hex
      by_cases h4 : 40 < n
      · have d1 : decide (40 < (n : Int)) = true := decide_eq_true (by omega)
        have d2 : decide ((n : Int) ≤ 512) = false := decide_eq_false (by omega)
        clear h1
        go_enter Tryd.func40, Tryd.ntmps40
        go_wp2_with fail
        refine (contains_long A n c R true _ (HH.out.below b0) (by omega) (Or.inl ⟨rfl, HEX.out⟩)).mono ?_; rintro e w2 ⟨rfl, b2⟩
        go_wp2_with fail
        go_ret
        exact ⟨rfl, below_next b0 b2⟩
      · have d1 : decide (40 < (n : Int)) = false := decide_eq_false (by omega)
        clear h1
        go_enter Tryd.func40, Tryd.ntmps40
        go_wp2_with fail
        refine (contains_long A n c R true _ (HH.out.below b0) (by omega) (Or.inl ⟨rfl, HEX.out⟩)).mono ?_; rintro e w2 ⟨rfl, b2⟩
        go_wp2_with fail
        go_ret
        exact ⟨rfl, below_next b0 b2⟩
theorem great1_no (A : Option Addr) (n c : Nat) (R : Nat → RowD) (w : World) (h : Rel w A n R) (hg : ¬ Great n R) :
    Calls Tryd.prog 40 #[.agg #[.slice A n c]] w fun e w' => e = .returned (.bool false) ∧ Below w.heap.size w w' := by
  have HH := Lib.hid h; clear h
  have b0 : Below w.heap.size w (w.alloc (.cells #[.slice A n c] 24)) := (Below.refl _ _).alloc (Nat.le_refl _) _
  have c0 := (relAt_new w A n c).c0
  have h1 : ¬ (40 < n ∧ n ≤ 512) := fun h => hg (Or.inl h)
  have h2 : ¬ 520 < n := fun h => hg (Or.inr (Or.inl h))
  have HEX : Hid (∀ k, k < n → (R k).l ≤ 20) := fun k hk => by
    rcases Nat.lt_or_ge 20 (R k).l with h | h
    · exact absurd (Or.inr (Or.inr ⟨k, hk, h⟩)) hg
    · exact h
  have d3 : decide (520 < (n : Int)) = false := decide_eq_false (by omega)
  clear hg
  by_cases h4 : 40 < n
  · have d1 : decide (40 < (n : Int)) = true := decide_eq_true (by omega)
    have d2 : decide ((n : Int) ≤ 512) = false := decide_eq_false (by omega)
    clear h1
    go_enter Tryd.func40, Tryd.ntmps40
    go_wp2_with fail
    refine (contains_long A n c R false _ (HH.out.below b0) (by omega) (Or.inr ⟨rfl, HEX.out⟩)).mono ?_; rintro e w2 ⟨rfl, b2⟩
    go_wp2_with fail
    go_ret
    exact ⟨rfl, below_next b0 b2⟩
  · have d1 : decide (40 < (n : Int)) = false := decide_eq_false (by omega)
    clear h1
    go_enter Tryd.func40, Tryd.ntmps40
    go_wp2_with fail
    refine (contains_long A n c R false _ (HH.out.below b0) (by omega) (Or.inr ⟨rfl, HEX.out⟩)).mono ?_; rintro e w2 ⟨rfl, b2⟩
    go_wp2_with fail
    go_ret
    exact ⟨rfl, below_next b0 b2⟩
/- block b holds m relations -/
structure RelD where
  A : Option Addr
  n : Nat
  c : Nat
  R : Nat → RowD
def RelsAt (w : World) (b m : Nat) (X : Nat → RelD) : Prop := b < w.heap.size ∧ ∀ k, k < m → w.cell? ⟨b, k, none⟩ = some (.slice (X k).A (X k).n (X k).c) ∧ Rel w (X k).A (X k).n (X k).R
theorem RelsAt.below {w w' : World} {b m : Nat} {X : Nat → RelD} (h : RelsAt w b m X) (hb : Below w.heap.size w w') : RelsAt w' b m X :=
  ⟨Nat.lt_of_lt_of_le h.1 hb.size, fun k hk => ⟨(hb.cell (p := ⟨b, k, none⟩) h.1).trans (h.2 k hk).1, (h.2 k hk).2.below hb⟩⟩
theorem index_great (b m : Nat) (X : Nat → RelD) (J : Nat) (r : Int) (w : World) (h : RelsAt w b m X) (hm : m ≤ 10) (hJ : J ≤ m)
    (hz : ∀ k, k < J → ¬ Great (X k).n (X k).R) (hr : (r = -1 ∧ J = m) ∨ (r = J ∧ J < m ∧ Great (X J).n (X J).R)) :
    Calls Tryd.prog 56 #[.slice (some ⟨b, 0, none⟩) m m, .func (Fn.func 40) #[] #[]] w fun e w' => e = .returned (.int .i64 r) ∧ Below w.heap.size w w' := by
  have HH := Lib.hid h; clear h
  have HZ := Lib.hid hz; clear hz
  have HR := Lib.hid hr; clear hr
  go_enter Tryd.func56, Tryd.ntmps56
  go_wp2_with fail
  go_loopw [5, 8] (fun x i wr => ∃ K : Nat, K ≤ J ∧ i = .int .i64 K ∧ Below w.heap.size w wr) (fun _ i _ => J - (intOf i).toNat)
  case atStart => exact ⟨0, by omega, rfl, Below.refl _ _⟩
  case round =>
    obtain ⟨K, hK, rfl, hB⟩ := hrel
    by_cases hlt : K < m
    · obtain ⟨x0, x1⟩ := (HH.out.below hB).2 K hlt
      have X1 := Lib.hid x1; clear x1
      by_cases hKJ : K < J
      · have HX := Lib.hid (HZ.out K hKJ)
        go_wp2_with fail
        refine (great1_no _ _ _ _ _ X1.out HX.out).mono ?_; rintro e w2 ⟨rfl, b2⟩
        go_wp2_with fail
        go_roundw
        case rel => exact ⟨K + 1, by omega, by go_num, below_next hB b2⟩
        case measure => simp [intOf]; omega
      · obtain rfl : K = J := by omega
        rcases HR.out with ⟨_, h2⟩ | ⟨rfl, _, h3⟩
        · omega
        · have HX := Lib.hid h3; clear h3
          go_wp2_with fail
          refine (great1_yes _ _ _ _ _ X1.out HX.out).mono ?_; rintro e w2 ⟨rfl, b2⟩
          go_wp2_with fail
          go_ret
          exact ⟨rfl, below_next hB b2⟩
    · rcases HR.out with ⟨rfl, h2⟩ | ⟨_, h2, _⟩
      · have HJ := Lib.hid h2; clear h2
        go_wp2_with fail
        go_ret
        exact ⟨rfl, hB⟩
      · omega
theorem great_any (b m : Nat) (X : Nat → RelD) (v : Bool) (w : World) (h : RelsAt w b m X) (hm : m ≤ 10) (hv : (v = true ∧ ∃ k, k < m ∧ Great (X k).n (X k).R) ∨ (v = false ∧ ∀ k, k < m → ¬ Great (X k).n (X k).R)) :
    Calls Tryd.prog 10 #[.slice (some ⟨b, 0, none⟩) m m] w fun e w' => e = .returned (.bool v) ∧ Below w.heap.size w w' := by
  have HH := Lib.hid h; clear h
  have hcon : Hid (∀ w', RelsAt w' b m X → Calls Tryd.prog 39 #[.slice (some ⟨b, 0, none⟩) m m, .func (Fn.func 40) #[] #[]] w' fun e w1 => e = .returned (.bool v) ∧ Below w'.heap.size w' w1) := fun w' h' => by
    have HH := Lib.hid h'; clear h'
    rcases hv with ⟨rfl, k, hk, hk2⟩ | ⟨rfl, hv⟩
    · obtain ⟨J, hJ, hJ2, hJ3⟩ := first_bad (p := fun k => ¬ Great (X k).n (X k).R) (n := m) (fun hall => hall k hk hk2)
      have H2 : Hid (Great (X J).n (X J).R) := Classical.byContradiction hJ2
      have H3 := Lib.hid hJ3
      clear hJ2 hJ3 hk2
      go_enter Tryd.func39, Tryd.ntmps39
      go_wp2_with fail
      refine (index_great b m X J J _ HH.out hm (by omega) H3.out (Or.inr ⟨rfl, hJ, H2.out⟩)).mono ?_; rintro e w2 ⟨rfl, b2⟩
      go_wp2_with fail
      go_ret
      exact ⟨rfl, b2⟩
    · have HV := Lib.hid hv; clear hv
      go_enter Tryd.func39, Tryd.ntmps39
      go_wp2_with fail
      refine (index_great b m X m (-1) _ HH.out hm (Nat.le_refl _) HV.out (Or.inl ⟨rfl, rfl⟩)).mono ?_; rintro e w2 ⟨rfl, b2⟩
      go_wp2_with fail
      go_ret
      exact ⟨rfl, b2⟩
  clear hv
  go_enter Tryd.func10, Tryd.ntmps10
  go_wp2_with fail
  refine (hcon.out _ HH.out).mono ?_; rintro e w2 ⟨rfl, b2⟩
  go_wp2_with fail
  go_ret
  exact ⟨rfl, b2⟩
end Go.Proofs.YtfjikeejifhnbaaDoor
