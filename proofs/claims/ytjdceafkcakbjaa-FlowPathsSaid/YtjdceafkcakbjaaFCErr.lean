/- The contract of closureError. -/
import Derived.Test.YtjdceafkcakbjaaFClo
namespace Go.Proofs.Ytjdceafkcakbjaa
open Go.RowKit
def WOk (z : Nat → Int) (i : Nat) : Prop := -1073741824 ≤ z i ∧ z i ≤ 1073741824
def NOk (y : Nat → Int × Int) (k i : Nat) : Prop := (0 ≤ (y i).1 ∧ (y i).1 < k) ∧ 0 ≤ (y i).2 ∧ (y i).2 < k
theorem cerr_full (A B : Option Addr) (k q c d : Nat) (w : World) (h : 500 < k ∨ 1000 < q) :
    Calls Try.prog 58 #[.slice A k c, .slice B q d] w fun e w' => e = .returned (.int .i64 5) ∧ Below w.heap.size w w' := by
  by_cases h1 : 500 < k
  · have q1 : decide (500 < (k : Int)) = true := decide_eq_true (by omega)
    clear h
    go_enter Try.func58, Try.ntmps58
    go_wp2_with fail
    go_ret
    exact ⟨rfl, Below.refl _ _⟩
  · have q1 : decide (500 < (k : Int)) = false := decide_eq_false (by omega)
    have q2 : decide (1000 < (q : Int)) = true := decide_eq_true (by omega)
    clear h
    go_enter Try.func58, Try.ntmps58
    go_wp2_with fail
    go_ret
    exact ⟨rfl, Below.refl _ _⟩
set_option maxRecDepth 100000 in
set_option maxHeartbeats 4000000 in
theorem cerr_any (A B : Option Addr) (k q c d J D : Nat) (r : Int) (z : Nat → Int) (y : Nat → Int × Int) (w : World) (hA : Ints w A k z) (hB : Prs w B q y) (hk : k ≤ 500) (hq : q ≤ 1000)
    (hJ : J ≤ k) (hz : ∀ i, i < J → WOk z i) (_hD : D ≤ q) (hy : ∀ i, i < D → NOk y k i)
    (hr : (r = 2 ∧ J < k ∧ ¬ WOk z J) ∨ (J = k ∧ ((r = 2 ∧ D < q ∧ ¬ NOk y k D) ∨ (r = 0 ∧ D = q)))) :
    Calls Try.prog 58 #[.slice A k c, .slice B q d] w fun e w' => e = .returned (.int .i64 r) ∧ Below w.heap.size w w' := by
  have HA := Lib.hid hA; clear hA
  have HB := Lib.hid hB; clear hB
  have HZ := Lib.hid hz; clear hz
  have HY := Lib.hid hy; clear hy
  have HR := Lib.hid hr; clear hr
  have q1 : decide (500 < (k : Int)) = false := decide_eq_false (by omega)
  have q2 : decide (1000 < (q : Int)) = false := decide_eq_false (by omega)
  go_enter Try.func58, Try.ntmps58
  go_wp2_with fail
  go_loopw [6, 19] (fun _ i wr => ∃ K : Nat, K ≤ J ∧ i = .int .i64 K ∧ Below w.heap.size w wr) (fun _ i _ => J - (intOf i).toNat)
  case atStart => exact ⟨0, by omega, rfl, Below.refl _ _⟩
  case round =>
    obtain ⟨K, hK, rfl, hBe⟩ := hrel
    by_cases hlt : K < k
    · obtain ⟨b, off, rfl, hbl, hcz⟩ := (HA.out.below hBe) (by omega)
      have x0 := hcz K hlt
      clear hcz
      have hwrap : IntKind.i64.wrap ((K : Int) + 1) = (K : Int) + 1 := IntWalk.i64_in _ (by omega)
      by_cases hKJ : K < J
      · have h1 := HZ.out K hKJ
        unfold WOk at h1
        generalize z K = zk at *
        have p1 : decide (zk < -1073741824) = false := decide_eq_false (by omega)
        have p2 : decide (1073741824 < zk) = false := decide_eq_false (by omega)
        go_wp2_with fail
        go_roundw
        case rel => exact ⟨K + 1, by omega, by go_num, hBe⟩
        case measure => simp [intOf]; omega
      · obtain rfl : K = J := by omega
        have h2 : r = 2 ∧ ¬ WOk z K := by
          rcases HR.out with ⟨h1, _, h2⟩ | ⟨h1, _⟩
          · exact ⟨h1, h2⟩
          · omega
        obtain ⟨rfl, h2⟩ := h2
        unfold WOk at h2
        generalize z K = zk at *
        by_cases hneg : zk < -1073741824
        · have p1 : decide (zk < -1073741824) = true := decide_eq_true hneg
          clear h2
          go_wp2_with fail
          go_ret
          exact ⟨rfl, hBe⟩
        · have p1 : decide (zk < -1073741824) = false := decide_eq_false hneg
          have p2 : decide (1073741824 < zk) = true := decide_eq_true (by omega)
          clear h2
          go_wp2_with fail
          go_ret
          exact ⟨rfl, hBe⟩
    · have HR2 : Hid (((r = 2 ∧ D < q ∧ ¬ NOk y k D) ∨ (r = 0 ∧ D = q))) := by
        rcases HR.out with ⟨_, h1, _⟩ | ⟨_, h1⟩
        · omega
        · exact h1
      have HK : Hid (K = k) := (by show _ = _; omega)
      obtain ⟨W2, hW2⟩ : ∃ W2, W2 = wr := ⟨_, rfl⟩
      go_wp2_with fail
      go_loopw [8, 32] (fun _ i wr => ∃ K : Nat, K ≤ D ∧ i = .int .i64 K ∧ Below w.heap.size w wr) (fun _ i _ => D - (intOf i).toNat)
      case atStart => exact ⟨0, by omega, rfl, hBe⟩
      case round =>
        clear hBe hW2 hlt
        obtain ⟨I, hI, rfl, hBe⟩ := hrel
        by_cases hlt : I < q
        · obtain ⟨b, off, rfl, hbl, hcz⟩ := (HB.out.below hBe) (by omega)
          obtain ⟨x0, x1⟩ := hcz I hlt
          clear hcz
          have hwrap : IntKind.i64.wrap ((I : Int) + 1) = (I : Int) + 1 := IntWalk.i64_in _ (by omega)
          have hyI := HY.out I
          have hyb : I = D → ¬ NOk y k I ∧ r = 2 := fun e => by
            rcases HR2.out with ⟨h1, _, h2⟩ | ⟨_, h1⟩
            · rw [e]; exact ⟨h2, h1⟩
            · omega
          unfold NOk at hyI hyb
          have HYI := Lib.hid hyI
          have HYB := Lib.hid hyb
          clear hyI hyb
          generalize (y I).1 = y1 at *
          generalize (y I).2 = y2 at *
          have bP := below_new wr (.cells #[.int .i64 y1, .int .i64 y2] 56)
          have eP : (wr.alloc (.cells #[.int .i64 y1, .int .i64 y2] 56)).heap[wr.heap.size]? = some (.cells #[.int .i64 y1, .int .i64 y2] 56 (0, 0)) := heap_alloc_new wr _
          have u0 := cell_of_row _ _ 0 _ _ _ eP
          have u1 := cell_of_row _ _ 1 _ _ _ eP
          have BP := below_next hBe bP
          by_cases hg : (0 ≤ y1 ∧ y1 < (k : Int)) ∧ 0 ≤ y2 ∧ y2 < (k : Int)
          · have hID : I < D := by
              by_cases e : I = D
              · exact absurd hg (HYB.out e).1
              · omega
            obtain ⟨⟨g1, g2⟩, g3, g4⟩ := hg
            go_wp2_with fail
            refine (isBelow_yes y1 k _ g1 g2).mono ?_; rintro e w' ⟨rfl, rfl⟩
            go_wp2_with fail
            refine (isBelow_yes y2 k _ g3 g4).mono ?_; rintro e w' ⟨rfl, rfl⟩
            go_wp2_with fail
            go_roundw
            case rel => exact ⟨I + 1, by omega, by go_num, BP⟩
            case measure => simp [intOf]; omega
          · have hr2 : r = 2 := by
              by_cases e : I < D
              · exact absurd (HYI.out e) hg
              · exact (HYB.out (by omega)).2
            subst hr2
            by_cases hg1 : 0 ≤ y1 ∧ y1 < (k : Int)
            · have hb : Hid (y2 < 0 ∨ (k : Int) ≤ y2) := (by show _ ∨ _; omega)
              obtain ⟨g1, g2⟩ := hg1
              clear hg
              go_wp2_with fail
              refine (isBelow_yes y1 k _ g1 g2).mono ?_; rintro e w' ⟨rfl, rfl⟩
              go_wp2_with fail
              refine (isBelow_no y2 k _ hb.out).mono ?_; rintro e w' ⟨rfl, rfl⟩
              go_wp2_with fail
              go_ret
              exact ⟨rfl, BP⟩
            · have hb : Hid (y1 < 0 ∨ (k : Int) ≤ y1) := (by show _ ∨ _; omega)
              clear hg hg1
              go_wp2_with fail
              refine (isBelow_no y1 k _ hb.out).mono ?_; rintro e w' ⟨rfl, rfl⟩
              go_wp2_with fail
              go_ret
              exact ⟨rfl, BP⟩
        · have hr0 : r = 0 := by
            rcases HR2.out with ⟨_, h1, _⟩ | ⟨h1, _⟩
            · omega
            · exact h1
          subst hr0
          go_wp2_with fail
          go_ret
          exact ⟨rfl, hBe⟩
/- the closed sets -/
structure CArgs (k q : Nat) (z : Nat → Int) (y : Nat → Int × Int) : Prop where
  k5 : k ≤ 500
  q1 : q ≤ 1000
  z : ∀ i, i < k → WOk z i
  y : ∀ i, i < q → NOk y k i
theorem cerr_ok (A B : Option Addr) (k q c d : Nat) (z : Nat → Int) (y : Nat → Int × Int) (w : World) (hA : Ints w A k z) (hB : Prs w B q y) (h : CArgs k q z y) :
    Calls Try.prog 58 #[.slice A k c, .slice B q d] w fun e w' => e = .returned (.int .i64 0) ∧ Below w.heap.size w w' :=
  cerr_any A B k q c d k q 0 z y w hA hB h.k5 h.q1 (Nat.le_refl _) h.z (Nat.le_refl _) h.y (Or.inr ⟨rfl, Or.inr ⟨rfl, rfl⟩⟩)
theorem cerr_range (A B : Option Addr) (k q c d : Nat) (z : Nat → Int) (y : Nat → Int × Int) (w : World) (hA : Ints w A k z) (hB : Prs w B q y) (hk : k ≤ 500) (hq : q ≤ 1000) (h : ¬ CArgs k q z y) :
    Calls Try.prog 58 #[.slice A k c, .slice B q d] w fun e w' => e = .returned (.int .i64 2) ∧ Below w.heap.size w w' := by
  by_cases hz : ∀ i, i < k → WOk z i
  · obtain ⟨D, h1, h2, h3⟩ := first_not (p := fun i => NOk y k i) (n := q) (fun hy => h ⟨hk, hq, hz, hy⟩)
    exact cerr_any A B k q c d k D 2 z y w hA hB hk hq (Nat.le_refl _) hz (by omega) h3 (Or.inr ⟨rfl, Or.inl ⟨rfl, h1, h2⟩⟩)
  · obtain ⟨J, h1, h2, h3⟩ := first_not (p := fun i => WOk z i) (n := k) hz
    exact cerr_any A B k q c d J 0 2 z y w hA hB hk hq (by omega) h3 (by omega) (fun i hi => absurd hi (Nat.not_lt_zero _)) (Or.inl ⟨rfl, h1, h2⟩)
end Go.Proofs.Ytjdceafkcakbjaa
