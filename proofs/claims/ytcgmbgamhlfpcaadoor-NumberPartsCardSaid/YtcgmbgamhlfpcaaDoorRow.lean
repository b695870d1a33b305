/- A block of integers of the call's own: what its cells hold, and what it is behind a store. -/
import Derived.OneCell
import Derived.WalkKit
namespace Go.Proofs.YtcgmbgamhlfpcaaDoor
open Go.RowKit
def rowArr (f : Nat → Int) (n : Nat) : Array Value := (Array.range n).map (fun i => Value.int .i64 (f i))
def upd (f : Nat → Int) (j : Nat) (v : Int) : Nat → Int := fun i => if i = j then v else f i
/- block R holds the n integers f 0, f 1, .. of element type t, none of them frozen -/
def IsInts (w : World) (R : Nat) (t : TypeId) (f : Nat → Int) (n : Nat) : Prop := w.heap[R]? = some (.cells (rowArr f n) t (0, 0))
theorem rowArr_get (f : Nat → Int) (n j : Nat) (h : j < n) : (rowArr f n)[j]? = some (.int .i64 (f j)) := by
  simp [rowArr, h]
theorem rowArr_congr {f g : Nat → Int} {n : Nat} (h : ∀ i, i < n → f i = g i) : rowArr f n = rowArr g n := by
  apply Array.ext
  · simp [rowArr]
  · intro i h1 h2
    have : i < n := by simpa [rowArr] using h1
    simp [rowArr, h i this]
theorem IsInts.congr {w : World} {R : Nat} {t : TypeId} {f g : Nat → Int} {n : Nat} (h : IsInts w R t f n) (e : ∀ i, i < n → f i = g i) : IsInts w R t g n := by
  unfold IsInts; rw [← rowArr_congr e]; exact h
theorem IsInts.cell {w : World} {R : Nat} {t : TypeId} {f : Nat → Int} {n : Nat} (h : IsInts w R t f n) (j : Nat) (hj : j < n) : w.cell? ⟨R, j, none⟩ = some (.int .i64 (f j)) := by
  have h2 : w.heap[R]? = some (.cells (rowArr f n) t (0, 0)) := h
  simp [World.cell?, h2, rowArr_get f n j hj]
theorem IsInts.free {w : World} {R : Nat} {t : TypeId} {f : Nat → Int} {n : Nat} (h : IsInts w R t f n) (j : Nat) : w.frozen? ⟨R, j, none⟩ = false := by
  have h2 : w.heap[R]? = some (.cells (rowArr f n) t (0, 0)) := h
  simp [World.frozen?, h2]
theorem IsInts.lt {w : World} {R : Nat} {t : TypeId} {f : Nat → Int} {n : Nat} (h : IsInts w R t f n) : R < w.heap.size := lt_of_block h
theorem rowArr_set (f : Nat → Int) (n j : Nat) (v : Int) : (rowArr f n).setIfInBounds j (.int .i64 v) = rowArr (upd f j v) n := by
  apply Array.ext
  · simp [rowArr]
  · intro i h1 h2
    have h1' : i < n := by simpa [rowArr] using h1
    have h3 : i < (rowArr f n).size := by simpa [rowArr] using h1'
    rw [Array.getElem_setIfInBounds h3]
    by_cases e : j = i
    · subst e; simp [rowArr, upd]
    · have e' : ¬ i = j := fun h => e h.symm
      simp [rowArr, upd, e, e']
theorem IsInts.set {w : World} {R : Nat} {t : TypeId} {f : Nat → Int} {n : Nat} (h : IsInts w R t f n) (j : Nat) (v : Int) : IsInts (w.setCell ⟨R, j, none⟩ (.int .i64 v)) R t (upd f j v) n := by
  have hlt := lt_of_block h
  have h' : w.heap[R] = .cells (rowArr f n) t (0, 0) := by have h2 : w.heap[R]? = some (.cells (rowArr f n) t (0, 0)) := h; simpa [Array.getElem?_eq_getElem hlt] using h2
  show (w.heap.modify R _)[R]? = _
  rw [Array.getElem?_eq_getElem (by simpa using hlt), Array.getElem_modify_self, h', ← rowArr_set]
  rfl
theorem IsInts.drew {w : World} {R : Nat} {t : TypeId} {f : Nat → Int} {n : Nat} (h : IsInts w R t f n) : IsInts w.drew R t f n := h
theorem isInts_made (w : World) (t : TypeId) (n : Nat) : IsInts (w.alloc (.cells (madeCells #[.int .i64 0] n) t)) w.heap.size t (fun _ => 0) n := by
  have e : madeCells #[.int .i64 0] n = rowArr (fun _ => 0) n := by
    apply Array.ext
    · simp [rowArr, size_madeCells]
    · intro i h1 h2; simp [rowArr, madeCells, Nat.mod_one]
  unfold IsInts; rw [← e]; exact heap_alloc_new w _
end Go.Proofs.YtcgmbgamhlfpcaaDoor
