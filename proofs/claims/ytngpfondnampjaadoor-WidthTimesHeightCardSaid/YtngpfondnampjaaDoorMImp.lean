/- Matching, ported: MImp. -/
import Derived.Test.YtngpfondnampjaaDoorMVal
import Derived.Test.YtngpfondnampjaaDoorMDfs
import Derived.StillTailTactics
import Derived.BigQuiet
import Derived.BigRegion
import Derived.Deep.CutRange
namespace Go.Proofs.YtngpfondnampjaaDoor
open Go.RowKit
def ivals (F : Nat → Int) : Nat → Value := fun v => .int .i64 (F v)
def bvals (s : Nat → Bool) : Nat → Value := fun v => .bool (s v)
theorem row_put {w : World} {g n k : Nat} {F : Nat → Int} (h : w.rowIs g 3 n (ivals F)) (x : Int) : (w.setCell ⟨g, k, none⟩ (.int .i64 x)).rowIs g 3 n (ivals (put F k x)) := (h.set k _).congr fun j _ => by
  unfold ivals put
  by_cases e : j = k
  · rw [if_pos e, if_pos e]
  · rw [if_neg e, if_neg e]
theorem row_mark {w : World} {g n k : Nat} {s : Nat → Bool} (h : w.rowIs g 4 n (bvals s)) : (w.setCell ⟨g, k, none⟩ (.bool true)).rowIs g 4 n (bvals (mark s k)) := (h.set k _).congr fun j _ => by
  unfold bvals mark
  by_cases e : j = k
  · rw [if_pos e, if_pos e]
  · rw [if_neg e, if_neg e]
def Apart (gL gR : Nat) (w w' : World) : Prop := ∀ b, b < w.heap.size → b ≠ gL → b ≠ gR → w'.heap[b]? = w.heap[b]?
theorem apart_new (w : World) (o : Obj) (g h : Nat) : Apart g h w (w.alloc o) := fun b hb _ _ => (below_new w o).block b hb
theorem apart_set {w w' : World} {g h : Nat} (k : Apart g h w w') {q : Addr} (hq : q.block = g ∨ q.block = h) (u : Value) : Apart g h w (w'.setCell q u) := fun b hb h1 h2 =>
  (Below.heap_setCell w' q u b (by rcases hq with e | e <;> rw [e] <;> assumption)).trans (k b hb h1 h2)
theorem Apart.drew {w w' : World} {g h : Nat} (k : Apart g h w w') : Apart g h w w'.drew := k
def MatEnd (w : World) (lim n m gL gR : Nat) (L R : Nat → Int) (a b : Nat) (e : Ending) (w' : World) : Prop :=
  e = .returned (.tuple #[]) ∧ w'.rowIs gL 3 n (ivals (put L a (b : Int))) ∧ w'.rowIs gR 3 m (ivals (put R b (a : Int))) ∧ Below lim w w' ∧ Apart gL gR w w'
theorem match_any (lim n m gL gR l c : Nat) (A : Option Addr) (L R : Nat → Int) (a b : Nat) (w : World) (hL : w.rowIs gL 3 n (ivals L)) (hR : w.rowIs gR 3 m (ivals R)) (hne : gL ≠ gR) (ha : a < n) (hb : b < m) (l1 : lim ≤ gL) (l2 : lim ≤ gR) :
    Calls Tryd.prog 98 #[.agg #[.slice A l c, .slice (some ⟨gL, 0, none⟩) n n, .slice (some ⟨gR, 0, none⟩) m m], .int .i64 a, .int .i64 b] w (MatEnd w lim n m gL gR L R a b) := by
  have e1 : (w.alloc (.cells #[.slice A l c, .slice (some ⟨gL, 0, none⟩) n n, .slice (some ⟨gR, 0, none⟩) m m] 100)).heap[w.heap.size]? = some (.cells #[.slice A l c, .slice (some ⟨gL, 0, none⟩) n n, .slice (some ⟨gR, 0, none⟩) m m] 100 (0, 0)) := heap_alloc_new w _
  have hL1 := hL.alloc (.cells #[.slice A l c, .slice (some ⟨gL, 0, none⟩) n n, .slice (some ⟨gR, 0, none⟩) m m] 100)
  have hR1 := hR.alloc (.cells #[.slice A l c, .slice (some ⟨gL, 0, none⟩) n n, .slice (some ⟨gR, 0, none⟩) m m] 100)
  have hlw : lim ≤ w.heap.size := by have := hL.lt; omega
  have bA := (Below.refl lim w).alloc hlw (.cells #[.slice A l c, .slice (some ⟨gL, 0, none⟩) n n, .slice (some ⟨gR, 0, none⟩) m m] 100)
  have aA := apart_new w (.cells #[.slice A l c, .slice (some ⟨gL, 0, none⟩) n n, .slice (some ⟨gR, 0, none⟩) m m] 100) gL gR
  have n1 : w.heap.size ≠ gL := by have := hL.lt; omega
  have n2 : w.heap.size ≠ gR := by have := hR.lt; omega
  clear hL hR
  go_enter Tryd.func98, Tryd.ntmps98
  go_upto_region 1 with fail
  generalize w.alloc (.cells #[.slice A l c, .slice (some ⟨gL, 0, none⟩) n n, .slice (some ⟨gR, 0, none⟩) m m] 100) = W at *
  have c1 : W.cell? ⟨w.heap.size, 1, none⟩ = some (.slice (some ⟨gL, 0, none⟩) n n) := cell_of_row _ _ 1 _ _ _ e1
  have c2 : W.cell? ⟨w.heap.size, 2, none⟩ = some (.slice (some ⟨gR, 0, none⟩) m m) := cell_of_row _ _ 2 _ _ _ e1
  have c3 : (W.setCell ⟨gL, a, none⟩ (.int .i64 (b : Int))).cell? ⟨w.heap.size, 2, none⟩ = some (.slice (some ⟨gR, 0, none⟩) m m) := (World.cell?_of_block (w := W) (Below.heap_setCell _ _ _ _ (by exact n1))).trans c2
  have f1 := hL1.frozen a
  have d1 : W.cell? ⟨gL, a, none⟩ = some (.int .i64 (L a)) := hL1.cell ha
  have d2 : W.cell? ⟨gR, b, none⟩ = some (.int .i64 (R b)) := hR1.cell hb
  have d3 : (W.setCell ⟨gL, a, none⟩ (.int .i64 (b : Int))).cell? ⟨gR, b, none⟩ = some (.int .i64 (R b)) := (hR1.setOther (a := ⟨gL, a, none⟩) (by exact hne.symm) (.int .i64 (b : Int))).cell hb
  have f2 := (hR1.setOther (a := ⟨gL, a, none⟩) (by exact hne.symm) (.int .i64 (b : Int))).frozen b
  have f3 := hR1.frozen b
  have f4 := (hL1.setOther (a := ⟨gR, b, none⟩) (by exact hne) (.int .i64 (a : Int))).frozen a
  have H2 := Lib.hid (And.intro ((row_put (k := a) hL1 (b : Int)).setOther (a := ⟨gR, b, none⟩) (by exact hne) (.int .i64 (a : Int))) (row_put (k := b) (hR1.setOther (a := ⟨gL, a, none⟩) (by exact hne.symm) (.int .i64 (b : Int))) (a : Int)))
  clear hL1 hR1 e1
  go_region
  all_goals
    go_end0
    refine ⟨rfl, ?_, ?_, ?_, ?_⟩
    · exact H2.out.1.drew
    · exact H2.out.2.drew
    · exact ((bA.setCell (by exact l1) _).setCell (by exact l2) _).drew
    · exact Apart.drew (apart_set (apart_set aA (Or.inl rfl) _) (Or.inr rfl) _)
end Go.Proofs.YtngpfondnampjaaDoor
