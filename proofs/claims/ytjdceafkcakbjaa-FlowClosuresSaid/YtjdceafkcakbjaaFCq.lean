/- What FlowClosures asks of its arguments: ContainsFunc over weights and over needs. -/
import Derived.Test.YtjdceafkcakbjaaFRCl
import Derived.Test.YtjdceafkcakbjaaFBe
namespace Go.Proofs.Ytjdceafkcakbjaa
open Go.RowKit
theorem cl31_any (x : Int) (v : Bool) (w : World) (hv : v = true ↔ ¬ (-1073741824 ≤ x ∧ x ≤ 1073741824)) :
    Calls Try.prog 31 #[.int .i64 x] w fun e w' => e = .returned (.bool v) ∧ Below w.heap.size w w' := by
  by_cases h1 : x < -1073741824
  · have q1 : decide (x < -1073741824) = true := decide_eq_true h1
    obtain rfl : v = true := hv.2 (by omega)
    clear hv h1
    go_enter Try.func31, Try.ntmps31
    go_wp2_with fail
    go_ret
    exact ⟨rfl, Below.refl _ _⟩
  · have q1 : decide (x < -1073741824) = false := decide_eq_false h1
    by_cases h2 : 1073741824 < x
    · have q2 : decide (1073741824 < x) = true := decide_eq_true h2
      obtain rfl : v = true := hv.2 (by omega)
      clear hv h1 h2
      go_enter Try.func31, Try.ntmps31
      go_wp2_with fail
      go_ret
      exact ⟨rfl, Below.refl _ _⟩
    · have q2 : decide (1073741824 < x) = false := decide_eq_false h2
      obtain rfl : v = false := by cases v with | false => rfl | true => exact absurd (hv.1 rfl) (by omega)
      clear hv h1 h2
      go_enter Try.func31, Try.ntmps31
      go_wp2_with fail
      go_ret
      exact ⟨rfl, Below.refl _ _⟩
theorem index_w (A : Option Addr) (k c J : Nat) (z : Nat → Int) (r : Int) (w : World) (h : Ints w A k z) (hk : k ≤ 1000000) (hJ : J ≤ k) (hz : ∀ j, j < J → WOk z j) (hr : (r = -1 ∧ J = k) ∨ (r = J ∧ J < k ∧ ¬ WOk z J)) :
    Calls Try.prog 57 #[.slice A k c, .func (Fn.func 31) #[] #[]] w fun e w' => e = .returned (.int .i64 r) ∧ Below w.heap.size w w' := by
  have HH := Lib.hid h; clear h
  have HZ := Lib.hid hz; clear hz
  have HR := Lib.hid hr; clear hr
  go_enter Try.func57, Try.ntmps57
  go_wp2_with fail
  go_loopw [5, 8] (fun x i wr => ∃ K : Nat, K ≤ J ∧ i = .int .i64 K ∧ Below w.heap.size w wr) (fun _ i _ => J - (intOf i).toNat)
  case atStart => exact ⟨0, by omega, rfl, Below.refl _ _⟩
  case round =>
    obtain ⟨K, hK, rfl, hB⟩ := hrel
    by_cases hlt : K < k
    · obtain ⟨b, off, rfl, hbl, hcz⟩ := (HH.out.below hB) (by omega)
      have x0 := hcz K hlt
      clear hcz hbl
      have hwrap : IntKind.i64.wrap ((K : Int) + 1) = (K : Int) + 1 := IntWalk.i64_in _ (by omega)
      have hzk : Hid (WOk z K → -1073741824 ≤ z K ∧ z K ≤ 1073741824) := fun h => h
      have hzk2 : Hid (¬ WOk z K → ¬ (-1073741824 ≤ z K ∧ z K ≤ 1073741824)) := fun h => h
      by_cases hKJ : K < J
      · have hok := Lib.hid (hzk.out (HZ.out K hKJ))
        clear hzk hzk2
        generalize z K = zk at *
        go_wp2_with fail
        refine (cl31_any zk false _ ⟨fun e => (by cases e), fun e => absurd hok.out e⟩).mono ?_; rintro e w2 ⟨rfl, b2⟩
        go_wp2_with fail
        go_roundw
        case rel => exact ⟨K + 1, by omega, by go_num, below_next hB b2⟩
        case measure => simp [intOf]; omega
      · obtain rfl : K = J := by omega
        rcases HR.out with ⟨_, h2⟩ | ⟨rfl, _, h3⟩
        · omega
        · have hno := Lib.hid (hzk2.out h3)
          clear hzk hzk2 h3
          generalize z K = zk at *
          go_wp2_with fail
          refine (cl31_any zk true _ ⟨fun _ => hno.out, fun _ => rfl⟩).mono ?_; rintro e w2 ⟨rfl, b2⟩
          go_wp2_with fail
          go_ret
          exact ⟨rfl, below_next hB b2⟩
    · rcases HR.out with ⟨rfl, h2⟩ | ⟨_, h2, _⟩
      · have HJ := Lib.hid h2; clear h2
        go_wp2_with fail
        go_ret
        exact ⟨rfl, hB⟩
      · omega
theorem contains_w (A : Option Addr) (k c : Nat) (z : Nat → Int) (v : Bool) (w : World) (h : Ints w A k z) (hk : k ≤ 1000000) (hv : v = true ↔ ¬ ∀ i, i < k → WOk z i) :
    Calls Try.prog 28 #[.slice A k c, .func (Fn.func 31) #[] #[]] w fun e w' => e = .returned (.bool v) ∧ Below w.heap.size w w' := by
  by_cases h2 : ∀ i, i < k → WOk z i
  · obtain rfl : v = false := by cases v with | false => rfl | true => exact absurd h2 (hv.1 rfl)
    have hidx := Lib.hid (index_w A k c k z (-1) w h hk (Nat.le_refl _) h2 (Or.inl ⟨rfl, rfl⟩))
    clear h h2 hv
    go_enter Try.func28, Try.ntmps28
    go_wp2_with fail
    refine hidx.out.mono ?_; rintro e w2 ⟨rfl, b2⟩
    go_wp2_with fail
    go_ret
    exact ⟨rfl, b2⟩
  · obtain rfl : v = true := hv.2 h2
    obtain ⟨J, h3, h4, h5⟩ := first_not (p := fun j => WOk z j) (n := k) h2
    have hidx := Lib.hid (index_w A k c J z J w h hk (by omega) h5 (Or.inr ⟨rfl, h3, h4⟩))
    have q1 : decide (0 ≤ (J : Int)) = true := decide_eq_true (by omega)
    clear h h2 h4 h5 hv
    go_enter Try.func28, Try.ntmps28
    go_wp2_with fail
    refine hidx.out.mono ?_; rintro e w2 ⟨rfl, b2⟩
    go_wp2_with fail
    go_ret
    exact ⟨by simp, b2⟩
theorem cl33_any (a b : Int) (A : Option Addr) (k c p : Nat) (v : Bool) (w : World) (hp : p < w.heap.size) (hc : w.cell? ⟨p, 0, none⟩ = some (.slice A k c)) (hv : v = true ↔ ¬ ((0 ≤ a ∧ a < k) ∧ 0 ≤ b ∧ b < k)) :
    Calls Try.prog 33 #[.agg #[.int .i64 a, .int .i64 b], .pointer (some ⟨p, 0, none⟩)] w fun e w' => e = .returned (.bool v) ∧ Below w.heap.size w w' := by
  have eP : (w.alloc (.cells #[.int .i64 a, .int .i64 b] 56)).heap[w.heap.size]? = some (.cells #[.int .i64 a, .int .i64 b] 56 (0, 0)) := heap_alloc_new w _
  have u0 := cell_of_row _ _ 0 _ _ _ eP
  have u1 := cell_of_row _ _ 1 _ _ _ eP
  have hcc := ((below_new w (.cells #[.int .i64 a, .int .i64 b] 56)).cell (p := ⟨p, 0, none⟩) hp).trans hc
  by_cases h1 : a < 0
  · have q1 : decide (a < 0) = true := decide_eq_true h1
    obtain rfl : v = true := hv.2 (by omega)
    clear hv h1
    go_enter Try.func33, Try.ntmps33
    go_wp2_with fail
    go_ret
    exact ⟨rfl, below_new _ _⟩
  · have q1 : decide (a < 0) = false := decide_eq_false h1
    by_cases h2 : (k : Int) ≤ a
    · have q2 : decide ((k : Int) ≤ a) = true := decide_eq_true h2
      obtain rfl : v = true := hv.2 (by omega)
      clear hv h1 h2
      go_enter Try.func33, Try.ntmps33
      go_wp2_with fail
      go_ret
      exact ⟨rfl, below_new _ _⟩
    · have q2 : decide ((k : Int) ≤ a) = false := decide_eq_false h2
      by_cases h3 : b < 0
      · have q3 : decide (b < 0) = true := decide_eq_true h3
        obtain rfl : v = true := hv.2 (by omega)
        clear hv h1 h2 h3
        go_enter Try.func33, Try.ntmps33
        go_wp2_with fail
        go_ret
        exact ⟨rfl, below_new _ _⟩
      · have q3 : decide (b < 0) = false := decide_eq_false h3
        by_cases h4 : (k : Int) ≤ b
        · have q4 : decide ((k : Int) ≤ b) = true := decide_eq_true h4
          obtain rfl : v = true := hv.2 (by omega)
          clear hv h1 h2 h3 h4
          go_enter Try.func33, Try.ntmps33
          go_wp2_with fail
          go_ret
          exact ⟨rfl, below_new _ _⟩
        · have q4 : decide ((k : Int) ≤ b) = false := decide_eq_false h4
          obtain rfl : v = false := by cases v with | false => rfl | true => exact absurd (hv.1 rfl) (by omega)
          clear hv h1 h2 h3 h4
          go_enter Try.func33, Try.ntmps33
          go_wp2_with fail
          go_ret
          exact ⟨rfl, below_new _ _⟩
theorem index_n (A : Option Addr) (q d k c p J : Nat) (B : Option Addr) (y : Nat → Int × Int) (r : Int) (w : World) (h : Prs w B q y) (hq : q ≤ 1000000) (hp : p < w.heap.size) (hc : w.cell? ⟨p, 0, none⟩ = some (.slice A k c)) (hJ : J ≤ q)
    (hz : ∀ j, j < J → NOk y k j) (hr : (r = -1 ∧ J = q) ∨ (r = J ∧ J < q ∧ ¬ NOk y k J)) :
    Calls Try.prog 60 #[.slice B q d, .func (Fn.func 33) #[] #[.pointer (some ⟨p, 0, none⟩)]] w fun e w' => e = .returned (.int .i64 r) ∧ Below w.heap.size w w' := by
  have HH := Lib.hid h; clear h
  have HZ := Lib.hid hz; clear hz
  have HR := Lib.hid hr; clear hr
  have HC := Lib.hid hc; clear hc
  have HP := Lib.hid hp; clear hp
  go_enter Try.func60, Try.ntmps60
  go_wp2_with fail
  go_loopw [5, 8] (fun x i wr => ∃ K : Nat, K ≤ J ∧ i = .int .i64 K ∧ Below w.heap.size w wr) (fun _ i _ => J - (intOf i).toNat)
  case atStart => exact ⟨0, by omega, rfl, Below.refl _ _⟩
  case round =>
    obtain ⟨K, hK, rfl, hB⟩ := hrel
    have HCW : Hid (wr.cell? ⟨p, 0, none⟩ = some (.slice A k c)) := (hB.cell (p := ⟨p, 0, none⟩) HP.out).trans HC.out
    have HPW : Hid (p < wr.heap.size) := Nat.lt_of_lt_of_le HP.out hB.size
    by_cases hlt : K < q
    · obtain ⟨b, off, rfl, hbl, hcz⟩ := (HH.out.below hB) (by omega)
      obtain ⟨x0, x1⟩ := hcz K hlt
      clear hcz hbl
      have hwrap : IntKind.i64.wrap ((K : Int) + 1) = (K : Int) + 1 := IntWalk.i64_in _ (by omega)
      have hzk : Hid (NOk y k K → (0 ≤ (y K).1 ∧ (y K).1 < k) ∧ 0 ≤ (y K).2 ∧ (y K).2 < k) := fun h => h
      have hzk2 : Hid (¬ NOk y k K → ¬ ((0 ≤ (y K).1 ∧ (y K).1 < k) ∧ 0 ≤ (y K).2 ∧ (y K).2 < k)) := fun h => h
      by_cases hKJ : K < J
      · have hok := Lib.hid (hzk.out (HZ.out K hKJ))
        clear hzk hzk2
        generalize (y K).1 = y1 at *
        generalize (y K).2 = y2 at *
        have HCL := Lib.hid (fun u (h1 : p < u.heap.size) h2 => cl33_any y1 y2 A k c p false u h1 h2 ⟨fun e => (by cases e), fun e => absurd hok.out e⟩)
        clear hok
        go_wp2_with fail
        refine (HCL.out _ HPW.out HCW.out).mono ?_; rintro e w2 ⟨rfl, b2⟩
        go_wp2_with fail
        go_roundw
        case rel => exact ⟨K + 1, by omega, by go_num, below_next hB b2⟩
        case measure => simp [intOf]; omega
      · obtain rfl : K = J := by omega
        rcases HR.out with ⟨_, h2⟩ | ⟨rfl, _, h3⟩
        · omega
        · have hno := Lib.hid (hzk2.out h3)
          clear hzk hzk2 h3
          generalize (y K).1 = y1 at *
          generalize (y K).2 = y2 at *
          have HCL := Lib.hid (fun u (h1 : p < u.heap.size) h2 => cl33_any y1 y2 A k c p true u h1 h2 ⟨fun _ => hno.out, fun _ => rfl⟩)
          clear hno
          go_wp2_with fail
          refine (HCL.out _ HPW.out HCW.out).mono ?_; rintro e w2 ⟨rfl, b2⟩
          go_wp2_with fail
          go_ret
          exact ⟨rfl, below_next hB b2⟩
    · rcases HR.out with ⟨rfl, h2⟩ | ⟨_, h2, _⟩
      · have HJ := Lib.hid h2; clear h2
        go_wp2_with fail
        go_ret
        exact ⟨rfl, hB⟩
      · omega
theorem contains_n (A : Option Addr) (q d k c p : Nat) (B : Option Addr) (y : Nat → Int × Int) (v : Bool) (w : World) (h : Prs w B q y) (hq : q ≤ 1000000) (hp : p < w.heap.size) (hc : w.cell? ⟨p, 0, none⟩ = some (.slice A k c)) (hv : v = true ↔ ¬ ∀ i, i < q → NOk y k i) :
    Calls Try.prog 32 #[.slice B q d, .func (Fn.func 33) #[] #[.pointer (some ⟨p, 0, none⟩)]] w fun e w' => e = .returned (.bool v) ∧ Below w.heap.size w w' := by
  by_cases h2 : ∀ i, i < q → NOk y k i
  · obtain rfl : v = false := by cases v with | false => rfl | true => exact absurd h2 (hv.1 rfl)
    have hidx := Lib.hid (index_n A q d k c p q B y (-1) w h hq hp hc (Nat.le_refl _) h2 (Or.inl ⟨rfl, rfl⟩))
    clear h h2 hv hc
    go_enter Try.func32, Try.ntmps32
    go_wp2_with fail
    refine hidx.out.mono ?_; rintro e w2 ⟨rfl, b2⟩
    go_wp2_with fail
    go_ret
    exact ⟨rfl, b2⟩
  · obtain rfl : v = true := hv.2 h2
    obtain ⟨J, h3, h4, h5⟩ := first_not (p := fun j => NOk y k j) (n := q) h2
    have hidx := Lib.hid (index_n A q d k c p J B y J w h hq hp hc (by omega) h5 (Or.inr ⟨rfl, h3, h4⟩))
    have q1 : decide (0 ≤ (J : Int)) = true := decide_eq_true (by omega)
    clear h h2 h4 h5 hv hc
    go_enter Try.func32, Try.ntmps32
    go_wp2_with fail
    refine hidx.out.mono ?_; rintro e w2 ⟨rfl, b2⟩
    go_wp2_with fail
    go_ret
    exact ⟨by simp, b2⟩
end Go.Proofs.Ytjdceafkcakbjaa
