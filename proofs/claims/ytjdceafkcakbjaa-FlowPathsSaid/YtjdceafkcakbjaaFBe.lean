/- What FlowBest calls: none, the closure over the needs, ContainsFunc; masks as sets. -/
import Derived.Test.YtjdceafkcakbjaaFAwk
namespace Go.Proofs.Ytjdceafkcakbjaa
open Go.RowKit
theorem none_yes (w : World) : Calls Try.prog 22 #[.agg #[.int .i64 0, .slice none 0 0]] w fun e w' => e = .returned (.bool true) ∧ Below w.heap.size w w' := by
  have s0 := setAt_new w 0 none 0 0
  have c0 := s0.c0
  have c1 := s0.c1
  go_enter Try.func22, Try.ntmps22
  go_wp2_with fail
  go_ret
  exact ⟨rfl, below_new _ _⟩
theorem and_zero_test (x u : Nat) (hx : x < 18446744073709551616) : (bits .and .u64 ((x : Int) / 2 ^ u) 1 == 0) = !x.testBit u := by
  have hq : x / 2 ^ u < 18446744073709551616 := Nat.lt_of_le_of_lt (Nat.div_le_self _ _) hx
  have h1 : bits .and .u64 ((x / 2 ^ u : Nat) : Int) ((1 : Nat) : Int) = ((x / 2 ^ u &&& 1 : Nat) : Int) := u64_and_nat _ 1 hq (by omega)
  rw [Nat.and_one_is_mod] at h1
  have h2 : bits .and .u64 ((x : Int) / 2 ^ u) 1 = ((x / 2 ^ u % 2 : Nat) : Int) := by rw [shr_cast]; exact h1
  rw [h2, Nat.testBit_eq_decide_div_mod_eq]
  by_cases h : x / 2 ^ u % 2 = 1
  · rw [h]; rfl
  · have : x / 2 ^ u % 2 = 0 := by omega
    rw [this]; rfl
theorem clb_any (m a b p : Nat) (w : World) (ha : a ≤ 64) (hb : b ≤ 64) (hm : m < 18446744073709551616) (hp : p < w.heap.size) (hc : w.cell? ⟨p, 0, none⟩ = some (.int .u64 (m : Int))) :
    Calls Try.prog 35 #[.agg #[.int .i64 a, .int .i64 b], .pointer (some ⟨p, 0, none⟩)] w fun e w' => e = .returned (.bool (m.testBit a && !m.testBit b)) ∧ Below w.heap.size w w' := by
  have eP : (w.alloc (.cells #[.int .i64 (a : Int), .int .i64 (b : Int)] 56)).heap[w.heap.size]? = some (.cells #[.int .i64 (a : Int), .int .i64 (b : Int)] 56 (0, 0)) := heap_alloc_new w _
  have u0 := cell_of_row _ _ 0 _ _ _ eP
  have u1 := cell_of_row _ _ 1 _ _ _ eP
  have hcc := ((below_new w (.cells #[.int .i64 (a : Int), .int .i64 (b : Int)] 56)).cell (p := ⟨p, 0, none⟩) hp).trans hc
  have ma : min a 64 = a := Nat.min_eq_left ha
  have mb : min b 64 = b := Nat.min_eq_left hb
  have t1 := and_one_test m a hm
  have t2 := and_zero_test m b hm
  obtain ⟨va, hva⟩ : ∃ va, m.testBit a = va := ⟨_, rfl⟩
  obtain ⟨vb, hvb⟩ : ∃ vb, m.testBit b = vb := ⟨_, rfl⟩
  rw [hva] at t1 ⊢
  rw [hvb] at t2 ⊢
  clear hva hvb
  cases va with
  | false =>
    go_enter Try.func35, Try.ntmps35
    go_wp2_with fail
    go_ret
    exact ⟨rfl, below_new _ _⟩
  | true =>
    go_enter Try.func35, Try.ntmps35
    go_wp2_with fail
    go_ret
    exact ⟨by simp, below_new _ _⟩
def NBad (m : Nat) (y : Nat → Int × Int) (j : Nat) : Prop := m.testBit (y j).1.toNat = true ∧ m.testBit (y j).2.toNat = false
theorem index_need (A : Option Addr) (q c k m p J : Nat) (y : Nat → Int × Int) (r : Int) (w : World) (h : Prs w A q y) (hk : k ≤ 64) (hy : ∀ j, j < q → NOk y k j) (hm : m < 18446744073709551616) (hq : q ≤ 1000000) (hp : p < w.heap.size) (hc : w.cell? ⟨p, 0, none⟩ = some (.int .u64 (m : Int))) (hJ : J ≤ q)
    (hz : ∀ j, j < J → ¬ NBad m y j) (hr : (r = -1 ∧ J = q) ∨ (r = J ∧ J < q ∧ NBad m y J)) :
    Calls Try.prog 60 #[.slice A q c, .func (Fn.func 35) #[] #[.pointer (some ⟨p, 0, none⟩)]] w fun e w' => e = .returned (.int .i64 r) ∧ Below w.heap.size w w' := by
  have HH := Lib.hid h; clear h
  have HZ := Lib.hid hz; clear hz
  have HR := Lib.hid hr; clear hr
  have HC := Lib.hid hc; clear hc
  have HP := Lib.hid hp; clear hp
  have HY := Lib.hid hy; clear hy
  have hclb := fun a b u (h3 : a ≤ 64) (h4 : b ≤ 64) h1 h2 => clb_any m a b p u h3 h4 hm h1 h2
  have HCLB := Lib.hid hclb; clear hclb
  go_enter Try.func60, Try.ntmps60
  go_wp2_with fail
  go_loopw [5, 8] (fun x i wr => ∃ K : Nat, K ≤ J ∧ i = .int .i64 K ∧ Below w.heap.size w wr) (fun _ i _ => J - (intOf i).toNat)
  case atStart => exact ⟨0, by omega, rfl, Below.refl _ _⟩
  case round =>
    obtain ⟨K, hK, rfl, hB⟩ := hrel
    have HCW : Hid (wr.cell? ⟨p, 0, none⟩ = some (.int .u64 (m : Int))) := (hB.cell (p := ⟨p, 0, none⟩) HP.out).trans HC.out
    have HPW : Hid (p < wr.heap.size) := Nat.lt_of_lt_of_le HP.out hB.size
    by_cases hlt : K < q
    · obtain ⟨b, off, rfl, hbl, hcz⟩ := (HH.out.below hB) (by omega)
      obtain ⟨x0, x1⟩ := hcz K hlt
      clear hcz hbl
      have hyK := HY.out K hlt
      unfold NOk at hyK
      obtain ⟨na, hna⟩ : ∃ na : Nat, (y K).1 = (na : Int) := ⟨(y K).1.toNat, by omega⟩
      obtain ⟨nb, hnb⟩ : ∃ nb : Nat, (y K).2 = (nb : Int) := ⟨(y K).2.toNat, by omega⟩
      have hbd : NBad m y K ↔ (m.testBit na = true ∧ m.testBit nb = false) := by unfold NBad; rw [hna, hnb]; simp
      have HBD := Lib.hid hbd
      rw [hna] at x0
      rw [hnb] at x1
      have hna64 : na ≤ 64 := by omega
      have hnb64 : nb ≤ 64 := by omega
      clear hbd hyK hna hnb
      have hwrap : IntKind.i64.wrap ((K : Int) + 1) = (K : Int) + 1 := IntWalk.i64_in _ (by omega)
      by_cases hKJ : K < J
      · have hv : Hid ((m.testBit na && !m.testBit nb) = false) := by
          have h1 := HZ.out K hKJ
          rw [HBD.out] at h1
          show _ = _
          cases e1 : m.testBit na <;> cases e2 : m.testBit nb <;> simp_all
        go_wp2_with fail
        refine (HCLB.out na nb _ hna64 hnb64 HPW.out HCW.out).mono ?_; rintro e w2 ⟨rfl, b2⟩
        rw [hv.out]
        go_wp2_with fail
        go_roundw
        case rel => exact ⟨K + 1, by omega, by go_num, below_next hB b2⟩
        case measure => simp [intOf]; omega
      · obtain rfl : K = J := by omega
        rcases HR.out with ⟨_, h2⟩ | ⟨rfl, _, h3⟩
        · omega
        · have hv : Hid ((m.testBit na && !m.testBit nb) = true) := by
            rw [HBD.out] at h3
            show _ = _
            rw [h3.1, h3.2]; rfl
          clear h3
          go_wp2_with fail
          refine (HCLB.out na nb _ hna64 hnb64 HPW.out HCW.out).mono ?_; rintro e w2 ⟨rfl, b2⟩
          rw [hv.out]
          go_wp2_with fail
          go_ret
          exact ⟨rfl, below_next hB b2⟩
    · rcases HR.out with ⟨rfl, h2⟩ | ⟨_, h2, _⟩
      · have HJ := Lib.hid h2; clear h2
        go_wp2_with fail
        go_ret
        exact ⟨rfl, hB⟩
      · omega
theorem contains_need (A : Option Addr) (q c k m p : Nat) (y : Nat → Int × Int) (v : Bool) (w : World) (h : Prs w A q y) (hk : k ≤ 64) (hy : ∀ j, j < q → NOk y k j) (hm : m < 18446744073709551616) (hq : q ≤ 1000000) (hp : p < w.heap.size) (hc : w.cell? ⟨p, 0, none⟩ = some (.int .u64 (m : Int)))
    (hv : (v = false ∧ Closed y q m.testBit) ∨ (v = true ∧ ¬ Closed y q m.testBit)) :
    Calls Try.prog 32 #[.slice A q c, .func (Fn.func 35) #[] #[.pointer (some ⟨p, 0, none⟩)]] w fun e w' => e = .returned (.bool v) ∧ Below w.heap.size w w' := by
  have key : ∀ j, NBad m y j ↔ ¬ (m.testBit (y j).1.toNat = true → m.testBit (y j).2.toNat = true) := fun j => by unfold NBad; simp
  rcases hv with ⟨rfl, h2⟩ | ⟨rfl, h2⟩
  · have hidx := Lib.hid (index_need A q c k m p q y (-1) w h hk hy hm hq hp hc (Nat.le_refl _) (fun j hj hb => (key j).1 hb (h2 j hj)) (Or.inl ⟨rfl, rfl⟩))
    clear h hy hc h2
    go_enter Try.func32, Try.ntmps32
    go_wp2_with fail
    refine hidx.out.mono ?_; rintro e w2 ⟨rfl, b2⟩
    go_wp2_with fail
    go_ret
    exact ⟨rfl, b2⟩
  · obtain ⟨J, h3, h4, h5⟩ := first_not (p := fun j => m.testBit (y j).1.toNat = true → m.testBit (y j).2.toNat = true) (n := q) h2
    have hidx := Lib.hid (index_need A q c k m p J y J w h hk hy hm hq hp hc (by omega) (fun j hj hb => (key j).1 hb (h5 j hj)) (Or.inr ⟨rfl, h3, (key J).2 h4⟩))
    clear h hy hc h2 h4 h5
    go_enter Try.func32, Try.ntmps32
    go_wp2_with fail
    refine hidx.out.mono ?_; rintro e w2 ⟨rfl, b2⟩
    go_wp2_with fail
    go_ret
    exact ⟨rfl, b2⟩
/- the word of a small set -/
theorem small_bt {l : List Nat} {v : Nat} (hv : v < 64) : bt (setF l) v = (setF l 0).testBit v := by
  unfold bt
  rw [show v / 64 = 0 by omega, show v % 64 = v by omega]
theorem small_lt {l : List Nat} {k : Nat} (hl : ∀ v, v ∈ l → v < k) : setF l 0 < 2 ^ k := by
  refine Nat.lt_pow_two_of_testBit _ fun i hi => ?_
  by_cases h64 : i < 64
  · rw [← small_bt h64]
    cases e : bt (setF l) i
    · rfl
    · have := hl i ((setF_bt l i).1 e); omega
  · have hu := setF_u64 l 1 0 (by decide)
    have e64 : (18446744073709551616 : Nat) = 2 ^ 64 := by decide
    rw [e64] at hu
    exact Nat.testBit_lt_two_pow (Nat.lt_of_lt_of_le hu (Nat.pow_le_pow_right (by decide) (by omega)))
theorem and_sub {m X k : Nat} (hX : X < 2 ^ k) (h : ∀ v, v < k → X.testBit v = true → m.testBit v = true) : m &&& X = X := by
  apply Nat.eq_of_testBit_eq
  intro i
  rw [Nat.testBit_and]
  by_cases hi : i < k
  · cases e : X.testBit i
    · simp
    · rw [h i hi e]; rfl
  · have : X.testBit i = false := Nat.testBit_lt_two_pow (Nat.lt_of_lt_of_le hX (Nat.pow_le_pow_right (by decide) (by omega)))
    rw [this]; simp
end Go.Proofs.Ytjdceafkcakbjaa
