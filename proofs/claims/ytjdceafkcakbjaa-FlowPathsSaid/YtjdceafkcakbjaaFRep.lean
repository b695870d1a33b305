/- The contract of slices.Repeat at one number. -/
import Derived.Test.YtjdceafkcakbjaaFNet
import Derived.Deep.RegionLaw
namespace Go.Proofs.Ytjdceafkcakbjaa
open Go.RowKit
theorem ret_two {a b c d : Int} (h : a = b) (k : c = d) : Ending.returned (.tuple #[.int .u64 a, .int .u64 c]) = .returned (.tuple #[.int .u64 b, .int .u64 d]) := by rw [h, k]
theorem mul64_one (n : Nat) (w : World) (h : n ≤ 512) : Calls Try.prog 76 #[.int .u64 1, .int .u64 n] w fun e w' => e = .returned (.tuple #[.int .u64 0, .int .u64 n]) ∧ w = w' := by
  have hand1 : bits .and .u64 (n : Int) 4294967295 = (n : Int) := by
    have e := and_u64 n 4294967295 (by omega) (by decide)
    have e2 : n &&& 4294967295 = n := by
      have := Nat.and_two_pow_sub_one_eq_mod n 32
      rw [show (2 : Nat) ^ 32 - 1 = 4294967295 by decide] at this
      rw [this]; exact Nat.mod_eq_of_lt (by have : (2 : Nat) ^ 32 = 4294967296 := by decide
                                            omega)
    rw [e2] at e; exact e
  have hand2 : bits .and .u64 (1 : Int) 4294967295 = 1 := by decide
  have hand3 : bits .and .u64 (0 : Int) 4294967295 = 0 := by decide
  have s1 : ((1 : Int) / 4294967296) = 0 := by decide
  have s2 : ((n : Int) / 4294967296) = 0 := by omega
  have s3 : ((0 : Int) / 4294967296) = 0 := by decide
  have k1 : IntKind.u64.wrap (n : Int) = n := wrap_nat n (by omega)
  have k0 : IntKind.u64.wrap (0 : Int) = 0 := by decide
  go_enter Try.func76, Try.ntmps76
  go_wp2_with fail
  refine bodyPost_ret (v := .tuple #[.int .u64 0, .int .u64 n]) (by simp [results, Try.results76, go_sem]) rfl ?_
  exact ⟨rfl, rfl⟩
theorem mul_one' (n : Nat) (w : World) (h : n ≤ 512) : Calls Try.prog 74 #[.int .u64 1, .int .u64 n] w fun e w' => e = .returned (.tuple #[.int .u64 0, .int .u64 n]) ∧ w = w' := by
  go_enter Try.func74, Try.ntmps74
  go_wp2_with fail
  refine (mul64_one n _ h).mono ?_; rintro e w1 ⟨rfl, rfl⟩
  go_wp2_with fail
  refine bodyPost_ret (v := .tuple #[.int .u64 0, .int .u64 n]) (by simp [results, Try.results74, go_sem]) rfl ?_
  exact ⟨rfl, rfl⟩
theorem Try.info3' : (Try.prog.info? 3).map (·.size) = some 1 := by kernel_rfl
theorem make_ints (n : Nat) (h : n ≤ 1000000) : ∀ w : World, (Instr.makeSlice 25 (.int .i64 (n : Int)) (.int .i64 (n : Int))).run Try.prog w = .ok (.slice (some ⟨w.heap.size, 0, none⟩) n n) (w.alloc (.cells (madeCells #[.int .i64 0] n) 3)) :=
  fun w => run_make_row' (P := Try.prog) 25 3 (.int .i64 0) 8 Try.underlying25 Try.info3 rfl .i64 .i64 n (by omega) (by omega) w
/- the first K of n are -1 -/
def rw1 (n K : Nat) : List Value := (List.range n).map fun i => .int .i64 (if i < K then -1 else 0)
theorem rw1_len (n K : Nat) : (rw1 n K).length = n := by simp [rw1]
theorem rw1_get {n K j : Nat} (hj : j < n) : (rw1 n K)[j]? = some (.int .i64 (if j < K then -1 else 0)) := by
  unfold rw1
  rw [List.getElem?_map, List.getElem?_range hj]; rfl
theorem rw1_splice {n K c : Nat} (hc : K + c ≤ n) : splice (rw1 n K) K (List.replicate c (.int .i64 (-1))) = rw1 n (K + c) := by
  apply List.ext_getElem?
  intro j
  by_cases hj : j < n
  · rw [rw1_get hj]
    unfold splice
    by_cases h1 : j < K
    · rw [List.getElem?_append_left (by rw [List.length_take, rw1_len]; omega), List.getElem?_take_of_lt h1, rw1_get hj, if_pos h1, if_pos (by omega)]
    · rw [List.getElem?_append_right (by rw [List.length_take, rw1_len]; omega), List.length_take, rw1_len, Nat.min_eq_left (by omega)]
      by_cases h2 : j < K + c
      · rw [List.getElem?_append_left (by rw [List.length_replicate]; omega), List.getElem?_replicate, if_pos (by omega), if_pos h2]
      · rw [List.getElem?_append_right (by rw [List.length_replicate]; omega), List.length_replicate, List.getElem?_drop, show K + c + (j - K - c) = j by omega, rw1_get hj, if_neg h1, if_neg h2]
  · have e1 : (splice (rw1 n K) K (List.replicate c (.int .i64 (-1)))).length = n := by
      rw [length_splice _ _ _ (by rw [rw1_len, List.length_replicate]; omega), rw1_len]
    rw [List.getElem?_eq_none (by omega), List.getElem?_eq_none (by rw [rw1_len]; omega)]
theorem rw1_made (n : Nat) : (rw1 n 0).toArray = madeCells #[.int .i64 0] n := by
  apply Array.ext
  · rw [size_madeCells]; simp [rw1]
  · intro i h1 h2
    have hi : i < n := by simpa [rw1] using h1
    have e : i % 1 = 0 := Nat.mod_one i
    simp [rw1, madeCells, e]
def Minus1 (w : World) (n : Nat) (e : Ending) (w' : World) : Prop :=
  ∃ g, e = .returned (.slice (some ⟨g, 0, none⟩) n n) ∧ w'.rowIs g 3 n (fun _ => .int .i64 (-1)) ∧ w.heap.size ≤ g ∧ Below w.heap.size w w'
set_option maxRecDepth 100000 in
set_option maxHeartbeats 4000000 in
theorem repeat_any (n B c : Nat) (w : World) (hn : 1 ≤ n) (h5 : n ≤ 512) (hB : w.heap[B]? = some (.cells #[.int .i64 (-1)] 3 (0, 0))) :
    Calls Try.prog 66 #[.slice (some ⟨B, 0, none⟩) 1 c, .int .i64 n] w (Minus1 w n) := by
  have HB := Lib.hid hB
  have hbl := lt_of_block hB
  clear hB
  have d1 : decide ((n : Int) < 0) = false := decide_eq_false (by omega)
  have k1 : IntKind.u64.wrap (n : Int) = n := wrap_nat n (by omega)
  have k2 : IntKind.u64.wrap (1 : Int) = 1 := by decide
  have k3 : IntKind.i64.wrap (n : Int) = n := IntWalk.i64_in _ (by omega)
  have d2 : decide ((9223372036854775807 : Int) < (n : Int)) = false := decide_eq_false (by omega)
  have hmk := make_ints n (by omega)
  go_enter Try.func66, Try.ntmps66
  go_wp2_with fail
  refine (mul_one' n _ h5).mono ?_; rintro e w1 ⟨rfl, rfl⟩
  have hb0 := below_new w (.cells (madeCells #[.int .i64 0] n) 3)
  have hcur : (w.alloc (.cells (madeCells #[.int .i64 0] n) 3)).heap[w.heap.size]? = some (.cells (rw1 n 0).toArray 3 (0, 0)) := by rw [rw1_made]; exact heap_alloc_new w _
  have hsrc : ∀ (j : Nat) v, ([Value.int .i64 (-1)] : List Value)[j]? = some v → (w.alloc (.cells (madeCells #[.int .i64 0] n) 3)).cell? ((⟨B, 0, none⟩ : Addr).add j) = some v := fun j v hv => by
    have hj : j = 0 := by
      have := (List.getElem?_eq_some_iff.1 hv).1
      simpa using this
    subst hj
    have hadd : (⟨B, 0, none⟩ : Addr).add 0 = ⟨B, 0, none⟩ := by unfold Addr.add; split <;> simp_all
    rw [hadd, World.cell?_alloc_past _ _ _ hbl]
    exact (cell_of_row _ _ 0 _ _ _ HB.out).trans hv
  have HSRC := Lib.hid hsrc; clear hsrc
  have HCUR := Lib.hid hcur; clear hcur
  have E1 : Hid (([Value.int .i64 (-1)] : List Value).length = Nat.min 1 n) := (Nat.min_eq_left hn).symm
  have E2 : Hid (0 + ([Value.int .i64 (-1)] : List Value).length ≤ (rw1 n 0).length) := by show _ ≤ _; rw [rw1_len]; exact hn
  have E3 : Hid (∀ v ∈ ([Value.int .i64 (-1)] : List Value), v.oneCell' = true) := fun v hv => by simp at hv; subst hv; rfl
  go_wp2_with (refine wpList_copy_splice rfl (.tmp 31) (.tmp 32) 25 25 rfl 3 Try.underlying25 Try.info3' (some ⟨w.heap.size, 0, none⟩) (some ⟨B, 0, none⟩) n n 1 c rfl rfl w.heap.size 0 (rw1 n 0) 3 HCUR.out [.int .i64 (-1)] E1.out (fun _ => ⟨rfl, _, rfl, HSRC.out⟩) E2.out E3.out w.heap.size w hb0 (Nat.le_refl _) ?_)
  intro w2 HG2 b2
  have hrow : w2.heap[w.heap.size]? = some (.cells (rw1 n 1).toArray 3 (0, 0)) := by
    have := HG2.out
    rw [show ([Value.int .i64 (-1)] : List Value) = List.replicate 1 (.int .i64 (-1)) from rfl, rw1_splice (by omega)] at this
    exact this
  have HR := Lib.hid hrow
  clear hrow HG2 HCUR HSRC hb0 hmk d1 d2 k1 k2 k3
  go_wp2_with fail
  clear hbl HB E1 E2 E3
  go_loopw [8] (fun i wr => ∃ K : Nat, 1 ≤ K ∧ K ≤ n ∧ i = .int .i64 K ∧ Hid (wr.heap[w.heap.size]? = some (.cells (rw1 n K).toArray 3 (0, 0))) ∧ Below w.heap.size w wr) (fun i _ => n - (intOf i).toNat)
  case atStart => exact ⟨1, by omega, hn, rfl, HR, b2⟩
  case round =>
    clear HR b2
    obtain ⟨K, hK1, hK, rfl, HR, hB⟩ := hrel
    by_cases hlt : K < n
    · obtain ⟨c, hc⟩ : ∃ c, c = Nat.min K (n - K) := ⟨_, rfl⟩
      have hc1 : 1 ≤ c := by rw [hc]; exact Nat.le_min.2 ⟨hK1, by omega⟩
      have hc2 : c ≤ n - K := by rw [hc]; exact Nat.min_le_right _ _
      have hc3 : c ≤ K := by rw [hc]; exact Nat.min_le_left _ _
      have E1 : Hid ((List.replicate c (Value.int .i64 (-1))).length = Nat.min K (n - K)) := by show _ = _; rw [List.length_replicate]; exact hc
      have E2 : Hid (K + (List.replicate c (Value.int .i64 (-1))).length ≤ (rw1 n K).length) := by show _ ≤ _; rw [rw1_len, List.length_replicate]; omega
      have E3 : Hid (∀ v ∈ List.replicate c (Value.int .i64 (-1)), v.oneCell' = true) := fun v hv => by rw [List.eq_of_mem_replicate hv]; rfl
      have E4 : Hid (∀ (j : Nat) v, (List.replicate c (Value.int .i64 (-1)))[j]? = some v → wr.cell? ((⟨w.heap.size, 0, none⟩ : Addr).add j) = some v) := fun j v hv => by
        rw [List.getElem?_replicate] at hv
        have hj : j < c := by
          by_cases h : j < c
          · exact h
          · rw [if_neg h] at hv; cases hv
        rw [if_pos hj] at hv
        have hadd : (⟨w.heap.size, 0, none⟩ : Addr).add j = ⟨w.heap.size, j, none⟩ := by unfold Addr.add; split <;> simp_all
        rw [hadd, cell_of_row _ _ j _ _ _ HR.out]
        have := rw1_get (n := n) (K := K) (j := j) (by omega)
        rw [if_pos (by omega)] at this
        simpa [hv] using this
      have hwrap : IntKind.i64.wrap ((K : Int) + (c : Int)) = (K : Int) + (c : Int) := IntWalk.i64_in _ (by omega)
      have HC := Lib.hid hc; clear hc
      have hne : ¬ n = K := by omega
      have hne' : ¬ K = n := by omega
      go_wp2_with fail
      go_region_law (go_loud (refine step_copy_splice rfl (.tmp 41) (.tmp 44) 25 25 rfl 3 Try.underlying25 Try.info3' (some ⟨w.heap.size, K, none⟩) (some ⟨w.heap.size, 0, none⟩) (n - K) (n - K) K n (by simp [Act.eval, Act.put]) (by simp [Act.eval, Act.put]) w.heap.size K (rw1 n K) 3 HR.out (List.replicate c (.int .i64 (-1))) E1.out (fun _ => ⟨rfl, _, rfl, E4.out⟩) E2.out E3.out w.heap.size w (by first | exact hB | exact hB.drew) (Nat.le_refl _) ?_); intro w4 hg4 hb4; rw [List.length_replicate])
      all_goals
        have HR2 : Hid (w4.heap[w.heap.size]? = some (.cells (rw1 n (K + c)).toArray 3 (0, 0))) := by have := hg4.out; rw [rw1_splice (by omega)] at this; exact this
        clear hg4
        simp [Act.put, go_sem]
        go_wp2_with fail
        go_roundw
        case rel => exact ⟨K + c, by omega, by omega, by go_num, HR2, hb4⟩
        case measure => simp [intOf]; omega
    · obtain rfl : K = n := by omega
      go_wp2_with fail
      go_ret
      refine ⟨w.heap.size, rfl, ⟨_, HR.out, by simp [rw1], fun i hi => ?_⟩, Nat.le_refl _, hB⟩
      have := rw1_get (n := K) (K := K) (j := i) hi
      rw [if_pos hi] at this
      simpa using this
end Go.Proofs.Ytjdceafkcakbjaa
