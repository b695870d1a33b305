/- The reference's reach: the small laws of its walk. -/
import Derived.Test.YtjdceafkcakbjaaFQue
import Derived.Test.YtjdceafkcakbjaaFRch
namespace Go.Proofs.Ytjdceafkcakbjaa
open Go.RowKit
theorem Try.info4 : (Try.prog.info? 4).map (fun i => (i.zero, i.size, i.bytes)) = some (some (.bool false), 1, 1) := by kernel_rfl
theorem make_bools (n : Nat) (h : n ≤ 1000000) : ∀ w : World, (Instr.makeSlice 77 (.int .i64 (n : Int)) (.int .i64 (n : Int))).run Try.prog w = .ok (.slice (some ⟨w.heap.size, 0, none⟩) n n) (w.alloc (.cells (madeCells #[.bool false] n) 4)) :=
  fun w => run_make_row' (P := Try.prog) 77 4 (.bool false) 1 Try.underlying77 Try.info4 rfl .i64 .i64 n (by omega) (by omega) w
/- the queue without its head: where nothing is left, its address stays -/
theorem slice_one (g o n cap : Nat) (hn : n ≤ cap) (w : World) : ∃ o', (o' = o + 1 ∨ (cap = 0 ∧ o' = o)) ∧ (Instr.sliceAt 25 (.slice (some ⟨g, o, none⟩) (n + 1) (cap + 1)) (some (.int .i64 1)) none none).run Try.prog w = .ok (.slice (some ⟨g, o', none⟩) n cap) w := by
  obtain ⟨i, hi, _, hs, _⟩ := info_parts Try.info3
  have he : Try.prog.elem 25 = 3 := by kernel_rfl
  have hu : Try.prog.underlying 25 = some (.slice (Try.prog.elem 25)) := by kernel_rfl
  refine ⟨if cap = 0 then o else o + 1, by by_cases h : cap = 0 <;> simp [h], ?_⟩
  rw [run_sliceAt_slice w 25 _ _ _ _ hu, run_slice_l w 25 _ _ _ hu .i64 1 (by omega) (by omega), he]
  by_cases h : cap = 0
  · subst h
    simp [sizeOf, typeInfo, hi, sliced, Result.andThen, hs]
  · simp [sizeOf, typeInfo, hi, sliced, Result.andThen, hs, h]
    exact add_nil g o 1
/- the row of what is found -/
def bvals (q : List Nat) : Nat → Value := fun v => .bool (decide (v ∈ q))
theorem count_mem : ∀ (n : Nat) (q : List Nat), q.Nodup → (∀ v, v ∈ q → v < n) → ((List.range n).filter fun v => decide (v ∈ q)).length = q.length
  | 0, q, _, h => by
    cases q with
    | nil => rfl
    | cons x q => exact absurd (h x (List.mem_cons_self ..)) (Nat.not_lt_zero _)
  | n + 1, q, hn, h => by
    rw [List.range_succ, List.filter_append, List.length_append]
    by_cases hq : n ∈ q
    · have ih := count_mem n (q.erase n) (hn.erase n) (fun v hv => by
        have h2 := h v (List.mem_of_mem_erase hv)
        have h3 : v ≠ n := fun e => by subst e; exact (List.Nodup.not_mem_erase hn) hv
        omega)
      have e : (List.range n).filter (fun v => decide (v ∈ q)) = (List.range n).filter (fun v => decide (v ∈ q.erase n)) := by
        refine List.filter_congr fun v hv => ?_
        have hv' : v ≠ n := by have := List.mem_range.1 hv; omega
        simp [List.mem_erase_of_ne hv']
      rw [e, ih, List.length_erase_of_mem hq]
      have := List.length_pos_of_mem hq
      simp [hq]; omega
    · have ih := count_mem n q hn (fun v hv => by
        have h2 := h v hv
        have h3 : v ≠ n := fun e => hq (e ▸ hv)
        omega)
      rw [ih]; simp [hq]
/- how many are found, read off the row: for the loop's measure -/
def seenC (w : World) (g n : Nat) : Nat := ((List.range n).filter fun i => match w.cell? ⟨g, i, none⟩ with | some (.bool true) => true | _ => false).length
theorem seenC_row {w : World} {g n : Nat} {q : List Nat} (h : w.rowIs g 4 n (bvals q)) (nd : q.Nodup) (lt : ∀ v, v ∈ q → v < n) : seenC w g n = q.length := by
  rw [← count_mem n q nd lt]
  unfold seenC
  congr 1
  refine List.filter_congr fun v hv => ?_
  rw [h.cell (List.mem_range.1 hv)]
  unfold bvals
  by_cases e : v ∈ q
  · rw [decide_eq_true e]
  · rw [decide_eq_false e]
end Go.Proofs.Ytjdceafkcakbjaa
