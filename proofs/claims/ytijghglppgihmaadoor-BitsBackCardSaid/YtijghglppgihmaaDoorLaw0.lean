/- The laws' own small functions: none, few. -/
import Derived.Test.YtijghglppgihmaaDoorSets
import Derived.Laws.Pointers
namespace Go.Proofs.YtijghglppgihmaaDoor
open Go.RowKit
theorem none_zero (w : World) : Calls Tryd.prog 17 #[.agg #[.int .i64 0, .slice none 0 0]] w fun e w' => e = .returned (.bool true) ∧ Below w.heap.size w w' := by
  go_enter Tryd.func17, Tryd.ntmps17
  go_wp2
  go_ret
  exact ⟨rfl, (Below.refl _ _).alloc (Nat.le_refl _) _⟩
theorem few1_yes (N : Int) (A : Option Addr) (l c : Nat) (w : World) (h : l ≤ 20) : Calls Tryd.prog 47 #[.agg #[.int .i64 N, .slice A l c]] w fun e w' => e = .returned (.bool false) ∧ Below w.heap.size w w' := by
  have hd : decide (20 < (l : Int)) = false := decide_eq_false (by omega)
  go_enter Tryd.func47, Tryd.ntmps47
  go_wp2
  go_ret
  exact ⟨rfl, (Below.refl _ _).alloc (Nat.le_refl _) _⟩
theorem few1_no (N : Int) (A : Option Addr) (l c : Nat) (w : World) (h : 20 < l) : Calls Tryd.prog 47 #[.agg #[.int .i64 N, .slice A l c]] w fun e w' => e = .returned (.bool true) ∧ Below w.heap.size w w' := by
  have hd : decide (20 < (l : Int)) = true := decide_eq_true (by omega)
  go_enter Tryd.func47, Tryd.ntmps47
  go_wp2
  go_ret
  exact ⟨rfl, (Below.refl _ _).alloc (Nat.le_refl _) _⟩
/- block b holds n sets -/
def Sets (w : World) (b n : Nat) (N : Nat → Int) (A : Nat → Option Addr) (l c : Nat → Nat) : Prop := b < w.heap.size ∧ ∀ k, k < n → w.cell? ⟨b, k * 2, none⟩ = some (.int .i64 (N k)) ∧ w.cell? ⟨b, k * 2 + 1, none⟩ = some (.slice (A k) (l k) (c k))
theorem Sets.below {w w' : World} {b n : Nat} {N : Nat → Int} {A : Nat → Option Addr} {l c : Nat → Nat} (h : Sets w b n N A l c) (hb : Below w.heap.size w w') : Sets w' b n N A l c :=
  ⟨Nat.lt_of_lt_of_le h.1 hb.size, fun k hk => ⟨(hb.cell (p := ⟨b, k * 2, none⟩) h.1).trans (h.2 k hk).1, (hb.cell (p := ⟨b, k * 2 + 1, none⟩) h.1).trans (h.2 k hk).2⟩⟩
theorem index_sets (b n : Nat) (N : Nat → Int) (A : Nat → Option Addr) (l c : Nat → Nat) (J : Nat) (r : Int) (w : World) (h : Sets w b n N A l c) (hn : n ≤ 10) (hJ : J ≤ n)
    (hz : ∀ k, k < J → l k ≤ 20) (hr : (r = -1 ∧ J = n) ∨ (r = J ∧ J < n ∧ 20 < l J)) :
    Calls Tryd.prog 70 #[.slice (some ⟨b, 0, none⟩) n n, .func (Fn.func 47) #[] #[]] w fun e w' => e = .returned (.int .i64 r) ∧ Below w.heap.size w w' := by
  have HH := Lib.hid h; clear h
  have HZ := Lib.hid hz; clear hz
  have HR := Lib.hid hr; clear hr
  go_enter Tryd.func70, Tryd.ntmps70
  go_wp2_with fail
  go_loopw [5, 8] (fun x i wr => ∃ K : Nat, K ≤ J ∧ i = .int .i64 K ∧ Below w.heap.size w wr) (fun _ i _ => J - (intOf i).toNat)
  case atStart => exact ⟨0, by omega, rfl, Below.refl _ _⟩
  case round =>
    obtain ⟨K, hK, rfl, hB⟩ := hrel
    by_cases hlt : K < n
    · obtain ⟨c0, c1⟩ := (HH.out.below hB).2 K hlt
      by_cases hKJ : K < J
      · have hl := HZ.out K hKJ
        go_wp2_with fail
        refine (few1_yes _ _ _ _ _ hl).mono ?_; rintro e w2 ⟨rfl, b2⟩
        go_wp2_with fail
        go_roundw
        case rel => exact ⟨K + 1, by omega, by go_num, below_next hB b2⟩
        case measure => simp [intOf]; omega
      · obtain rfl : K = J := by omega
        rcases HR.out with ⟨_, h2⟩ | ⟨rfl, _, h3⟩
        · omega
        · go_wp2_with fail
          refine (few1_no _ _ _ _ _ h3).mono ?_; rintro e w2 ⟨rfl, b2⟩
          go_wp2_with fail
          go_ret
          exact ⟨rfl, below_next hB b2⟩
    · rcases HR.out with ⟨rfl, h2⟩ | ⟨_, h2, _⟩
      · have HJ := Lib.hid h2; clear h2
        go_wp2_with fail
        go_ret
        exact ⟨rfl, hB⟩
      · omega
theorem contains_yes (b n : Nat) (N : Nat → Int) (A : Nat → Option Addr) (l c : Nat → Nat) (J : Nat) (w : World) (h : Sets w b n N A l c) (hn : n ≤ 10) (hz : ∀ k, k < J → l k ≤ 20) (hr : J < n ∧ 20 < l J) :
    Calls Tryd.prog 46 #[.slice (some ⟨b, 0, none⟩) n n, .func (Fn.func 47) #[] #[]] w fun e w' => e = .returned (.bool true) ∧ Below w.heap.size w w' := by
  have HH := Lib.hid h; clear h
  have HZ := Lib.hid hz; clear hz
  have HR := Lib.hid hr; clear hr
  go_enter Tryd.func46, Tryd.ntmps46
  go_wp2_with fail
  refine (index_sets b n N A l c J J _ HH.out hn (by have := HR.out.1; omega) HZ.out (Or.inr ⟨rfl, HR.out⟩)).mono ?_; rintro e w2 ⟨rfl, b2⟩
  go_wp2_with fail
  go_ret
  exact ⟨rfl, b2⟩
theorem contains_no (b n : Nat) (N : Nat → Int) (A : Nat → Option Addr) (l c : Nat → Nat) (w : World) (h : Sets w b n N A l c) (hn : n ≤ 10) (hz : ∀ k, k < n → l k ≤ 20) :
    Calls Tryd.prog 46 #[.slice (some ⟨b, 0, none⟩) n n, .func (Fn.func 47) #[] #[]] w fun e w' => e = .returned (.bool false) ∧ Below w.heap.size w w' := by
  have HH := Lib.hid h; clear h
  have HZ := Lib.hid hz; clear hz
  go_enter Tryd.func46, Tryd.ntmps46
  go_wp2_with fail
  refine (index_sets b n N A l c n (-1) _ HH.out hn (Nat.le_refl _) HZ.out (Or.inl ⟨rfl, rfl⟩)).mono ?_; rintro e w2 ⟨rfl, b2⟩
  go_wp2_with fail
  go_ret
  exact ⟨rfl, b2⟩
theorem few_no (b n : Nat) (N : Nat → Int) (A : Nat → Option Addr) (l c : Nat → Nat) (J : Nat) (w : World) (h : Sets w b n N A l c) (hn : n ≤ 10) (hz : ∀ k, k < J → l k ≤ 20) (hr : J < n ∧ 20 < l J) :
    Calls Tryd.prog 12 #[.slice (some ⟨b, 0, none⟩) n n] w fun e w' => e = .returned (.bool false) ∧ Below w.heap.size w w' := by
  have HH := Lib.hid h; clear h
  have HZ := Lib.hid hz; clear hz
  have HR := Lib.hid hr; clear hr
  go_enter Tryd.func12, Tryd.ntmps12
  go_wp2_with fail
  refine (contains_yes b n N A l c J _ HH.out hn HZ.out HR.out).mono ?_; rintro e w2 ⟨rfl, b2⟩
  go_wp2_with fail
  go_ret
  exact ⟨rfl, b2⟩
theorem few_yes (b n : Nat) (N : Nat → Int) (A : Nat → Option Addr) (l c : Nat → Nat) (w : World) (h : Sets w b n N A l c) (hn : n ≤ 10) (hz : ∀ k, k < n → l k ≤ 20) :
    Calls Tryd.prog 12 #[.slice (some ⟨b, 0, none⟩) n n] w fun e w' => e = .returned (.bool true) ∧ Below w.heap.size w w' := by
  have HH := Lib.hid h; clear h
  have HZ := Lib.hid hz; clear hz
  go_enter Tryd.func12, Tryd.ntmps12
  go_wp2_with fail
  refine (contains_no b n N A l c _ HH.out hn HZ.out).mono ?_; rintro e w2 ⟨rfl, b2⟩
  go_wp2_with fail
  go_ret
  exact ⟨rfl, b2⟩
end Go.Proofs.YtijghglppgihmaaDoor
