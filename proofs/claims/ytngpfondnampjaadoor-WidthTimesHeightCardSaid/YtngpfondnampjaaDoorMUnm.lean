/- Matching, ported: MUnm. -/
import Derived.Test.YtngpfondnampjaaDoorMIm2
import Derived.Deep.RegionLaw
import Derived.Deep.AppendLies
import Derived.Deep.RegionHeld3
namespace Go.Proofs.YtngpfondnampjaaDoor
open Go.RowKit
theorem make_ints5 (n : Nat) (h : n ≤ 1000000) : ∀ w : World, (Instr.makeSlice 25 (.int .i64 (n : Int)) (.int .i64 (n : Int))).run Tryd.prog w = .ok (.slice (some ⟨w.heap.size, 0, none⟩) n n) (w.alloc (.cells (madeCells #[.int .i64 0] n) 3)) :=
  fun w => run_make_row' (P := Tryd.prog) 25 3 (.int .i64 0) 8 Tryd.underlying25 Tryd.info3 rfl .i64 .i64 n (by omega) (by omega) w
theorem make_rows5 (n : Nat) (h : n ≤ 1000000) : ∀ w : World, (Instr.makeSlice 29 (.int .i64 (n : Int)) (.int .i64 (n : Int))).run Tryd.prog w = .ok (.slice (some ⟨w.heap.size, 0, none⟩) n n) (w.alloc (.cells (madeCells #[.slice none 0 0] n) 25)) :=
  fun w => run_make_row' (P := Tryd.prog) 29 25 (.slice none 0 0) 24 Tryd.underlying29 Tryd.info25 rfl .i64 .i64 n (by omega) (by omega) w
/- rows of numbers, each in a block of its own -/
def setL {α : Type} (V : Nat → α) (k : Nat) (x : α) : Nat → α := fun j => if j = k then x else V j
theorem setL_same {α : Type} (V : Nat → α) (k : Nat) (x : α) : setL V k x k = x := if_pos rfl
theorem setL_ne {α : Type} (V : Nat → α) {k j : Nat} (x : α) (h : j ≠ k) : setL V k x j = V j := if_neg h
structure TabN (w : World) (base gN n : Nat) (nb : Nat → List Nat) (V : Nat → Value) : Prop where
  rows : w.rowIs gN 25 n V
  own : ∀ a, a < n → w.ownsRow base 3 1 (V a) (nb a).length (vals (nb a))
  apart : ∀ a b, a < n → b < n → a ≠ b → ∀ g, (V a).ownBlock = some g → (V b).ownBlock ≠ some g
  lt : gN < base
theorem grown_set (w : World) (q : Addr) (u : Value) : w.grownBy (w.setCell q u) (some q.block) := ⟨rfl, rfl, rfl, by simp, fun b _ hne => Below.heap_setCell w q u b (fun e => hne (by rw [e]))⟩
section
variable {w w' : World} {base gN n : Nat} {nb : Nat → List Nat} {V : Nat → Value}
theorem TabN.grown (h : TabN w base gN n nb V) {g : Nat} (hg : w.grownBy w' (some g)) (h1 : g ≠ gN) (h2 : g < base) : TabN w' base gN n nb V :=
  ⟨h.rows.of_block (hg.block gN h.rows.lt (fun e => h1 (by injection e with e; exact e.symm))), fun a ha => (h.own a ha).kept hg (.inr fun e => by have := ((h.own a ha).lt g e).1; omega), h.apart, h.lt⟩
theorem TabN.below (h : TabN w base gN n nb V) (hb : Below w.heap.size w w') : TabN w' base gN n nb V := ⟨row_below h.rows hb, fun a ha => own_below (h.own a ha) hb, h.apart, h.lt⟩
theorem TabN.step (h : TabN w base gN n nb V) {a x g c : Nat} (ha : a < n) (hown : w'.ownsRow base 3 1 (.slice (some ⟨g, 0, none⟩) ((nb a).length + 1) c) ((nb a).length + 1) (vals (nb a ++ [x]))) (hg : w.grownBy w' (V a).ownBlock) (hat : (V a).ownBlock = some g ∨ w.heap.size ≤ g) :
    TabN (w'.setCell ⟨gN, a, none⟩ (.slice (some ⟨g, 0, none⟩) ((nb a).length + 1) c)) base gN n (setL nb a (nb a ++ [x])) (setL V a (.slice (some ⟨g, 0, none⟩) ((nb a).length + 1) c)) ∧ w'.rowIs gN 25 n V := by
  have hne : ∀ q, (V a).ownBlock = some q → base ≤ q ∧ q < w.heap.size := fun q e => (h.own a ha).lt q e
  have hgb : base ≤ g := (hown.lt g rfl).1
  have hrow : w'.rowIs gN 25 n V := h.rows.of_block (hg.block gN h.rows.lt (fun e => by have := (hne gN e.symm).1; have := h.lt; omega))
  have hs := grown_set w' ⟨gN, a, none⟩ (.slice (some ⟨g, 0, none⟩) ((nb a).length + 1) c)
  have hlt := h.lt
  have hfar : ∀ b, b < n → b ≠ a → ∀ q, (V b).ownBlock = some q → q ≠ g := fun b hb hba q e e2 => by
    rcases hat with h1 | h1
    · exact h.apart b a hb ha hba q e (by rw [e2]; exact h1)
    · have := ((h.own b hb).lt q e).2; omega
  refine ⟨⟨(hrow.set a _).congr fun j _ => ?_, fun b hb => ?_, fun b d hb hd hbd q => ?_, hlt⟩, hrow⟩
  · unfold setL
    by_cases e : j = a
    · rw [if_pos e]
    · rw [if_neg e]
  · by_cases e : b = a
    · subst e
      rw [setL_same, setL_same, List.length_append]
      exact hown.kept hs (.inr fun e => by have e : g = gN := by injection e
                                           omega)
    · rw [setL_ne _ _ e, setL_ne _ _ e]
      have h1 : w'.ownsRow base 3 1 (V b) (nb b).length (vals (nb b)) := by
        refine (h.own b hb).kept hg ?_
        cases hq : (V b).ownBlock with
        | none => exact .inl rfl
        | some q => exact .inr fun e2 => h.apart b a hb ha e q hq e2.symm
      refine h1.kept hs (.inr fun e2 => ?_)
      have := ((h.own b hb).lt gN e2).1
      omega
  · by_cases e : b = a
    · subst e
      rw [setL_same, setL_ne _ _ (Ne.symm hbd)]
      intro e2 e3
      have e2 : g = q := by injection e2
      exact hfar d hd (Ne.symm hbd) q e3 e2.symm
    · rw [setL_ne _ _ e]
      intro e2
      by_cases e' : d = a
      · subst e'
        rw [setL_same]
        intro e3
        have e3 : g = q := by injection e3
        exact hfar b hb e q e2 e3.symm
      · rw [setL_ne _ _ e']
        exact h.apart b d hb hd hbd q e2
end
def nbs (E : Nat → Int × Int) : Nat → Nat → List Nat
  | 0 => fun _ => []
  | K + 1 => if 0 ≤ (E K).1 then setL (nbs E K) (E K).1.toNat (nbs E K (E K).1.toNat ++ [(E K).2.toNat]) else nbs E K
theorem nbs_step {E : Nat → Int × Int} {K a x : Nat} (h : E K = ((a : Int), (x : Int))) : nbs E (K + 1) = setL (nbs E K) a (nbs E K a ++ [x]) := by
  show (if 0 ≤ (E K).1 then setL (nbs E K) (E K).1.toNat (nbs E K (E K).1.toNat ++ [(E K).2.toNat]) else nbs E K) = _
  rw [h, if_pos (by show (0 : Int) ≤ (a : Int); omega)]
  rfl
theorem nbs_len (E : Nat → Int × Int) : ∀ K a, (nbs E K a).length ≤ K
  | 0, _ => Nat.le_refl _
  | K + 1, a => by
    show ((if 0 ≤ (E K).1 then setL (nbs E K) (E K).1.toNat (nbs E K (E K).1.toNat ++ [(E K).2.toNat]) else nbs E K) a).length ≤ _
    split
    · unfold setL
      split
      · rw [List.length_append]; have := nbs_len E K (E K).1.toNat; simp; omega
      · have := nbs_len E K a; omega
    · have := nbs_len E K a; omega
/- four blocks, one after the other -/
theorem al4 (W : World) (a b c d : Obj) : ((((W.alloc a).alloc b).alloc c).alloc d).heap[W.heap.size]? = some a ∧ ((((W.alloc a).alloc b).alloc c).alloc d).heap[W.heap.size + 1]? = some b ∧
    ((((W.alloc a).alloc b).alloc c).alloc d).heap[W.heap.size + 1 + 1]? = some c ∧ ((((W.alloc a).alloc b).alloc c).alloc d).heap[W.heap.size + 1 + 1 + 1]? = some d ∧
    Below W.heap.size W ((((W.alloc a).alloc b).alloc c).alloc d) ∧ ((((W.alloc a).alloc b).alloc c).alloc d).heap.size = W.heap.size + 4 := by
  have k1 : (W.alloc a).heap.size = W.heap.size + 1 := by simp
  have k2 : ((W.alloc a).alloc b).heap.size = W.heap.size + 1 + 1 := by simp
  have k3 : (((W.alloc a).alloc b).alloc c).heap.size = W.heap.size + 1 + 1 + 1 := by simp
  have b4 := below_new (((W.alloc a).alloc b).alloc c) d
  have b3 := below_new ((W.alloc a).alloc b) c
  have b2 := below_new (W.alloc a) b
  refine ⟨?_, ?_, ?_, ?_, below_next (below_next (below_next (below_new W a) b2) b3) b4, by simp⟩
  · rw [b4.block _ (by omega), b3.block _ (by omega), b2.block _ (by omega)]; exact heap_alloc_new W a
  · rw [b4.block _ (by omega), b3.block _ (by omega), ← k1]; exact heap_alloc_new (W.alloc a) b
  · rw [b4.block _ (by omega), ← k2]; exact heap_alloc_new ((W.alloc a).alloc b) c
  · rw [← k3]; exact heap_alloc_new (((W.alloc a).alloc b).alloc c) d
structure Start (W wx : World) (n m p gN gL gR : Nat) : Prop where
  box : wx.heap[p]? = some (.cells #[.slice (some ⟨gN, 0, none⟩) n n, .slice (some ⟨gL, 0, none⟩) n n, .slice (some ⟨gR, 0, none⟩) m m] 100 (0, 0))
  hN : wx.heap[gN]? = some (.cells (madeCells #[.slice none 0 0] n) 25)
  hL : wx.heap[gL]? = some (.cells (madeCells #[.int .i64 0] n) 3)
  hR : wx.heap[gR]? = some (.cells (madeCells #[.int .i64 0] m) 3)
  bl : Below W.heap.size W wx
  sz : wx.heap.size = W.heap.size + 4
  lo : W.heap.size ≤ p ∧ W.heap.size ≤ gN ∧ W.heap.size ≤ gL ∧ W.heap.size ≤ gR
  hi : p < W.heap.size + 4 ∧ gN < W.heap.size + 4 ∧ gL < W.heap.size + 4 ∧ gR < W.heap.size + 4
  ne : p ≠ gN ∧ p ≠ gL ∧ p ≠ gR ∧ gN ≠ gL ∧ gN ≠ gR ∧ gL ≠ gR
theorem Start.put {W X : World} {n m p gN gL gR : Nat} {y0 y1 y2 : Value} (hp : X.heap[p]? = some (.cells #[y0, y1, y2] 100 (0, 0)))
    (hN : X.heap[gN]? = some (.cells (madeCells #[.slice none 0 0] n) 25)) (hL : X.heap[gL]? = some (.cells (madeCells #[.int .i64 0] n) 3)) (hR : X.heap[gR]? = some (.cells (madeCells #[.int .i64 0] m) 3))
    (bl : Below W.heap.size W X) (sz : X.heap.size = W.heap.size + 4) (lo : W.heap.size ≤ p ∧ W.heap.size ≤ gN ∧ W.heap.size ≤ gL ∧ W.heap.size ≤ gR) (hi : p < W.heap.size + 4 ∧ gN < W.heap.size + 4 ∧ gL < W.heap.size + 4 ∧ gR < W.heap.size + 4)
    (ne : p ≠ gN ∧ p ≠ gL ∧ p ≠ gR ∧ gN ≠ gL ∧ gN ≠ gR ∧ gL ≠ gR) :
    Start W (((X.setCell ⟨p, 0, none⟩ (.slice (some ⟨gN, 0, none⟩) n n)).setCell ⟨p, 1, none⟩ (.slice (some ⟨gL, 0, none⟩) n n)).setCell ⟨p, 2, none⟩ (.slice (some ⟨gR, 0, none⟩) m m)) n m p gN gL gR := by
  have h0 := heap_setCell_same X p 0 _ _ (.slice (some ⟨gN, 0, none⟩) n n) hp
  have h1 := heap_setCell_same _ p 1 _ _ (.slice (some ⟨gL, 0, none⟩) n n) h0
  have h2 := heap_setCell_same _ p 2 _ _ (.slice (some ⟨gR, 0, none⟩) m m) h1
  have far : ∀ g, g ≠ p → (((X.setCell ⟨p, 0, none⟩ (.slice (some ⟨gN, 0, none⟩) n n)).setCell ⟨p, 1, none⟩ (.slice (some ⟨gL, 0, none⟩) n n)).setCell ⟨p, 2, none⟩ (.slice (some ⟨gR, 0, none⟩) m m)).heap[g]? = X.heap[g]? := fun g hg => by
    rw [Below.heap_setCell _ _ _ _ (by exact hg), Below.heap_setCell _ _ _ _ (by exact hg), Below.heap_setCell _ _ _ _ (by exact hg)]
  refine ⟨by simpa using h2, (far gN (Ne.symm ne.1)).trans hN, (far gL (Ne.symm ne.2.1)).trans hL, (far gR (Ne.symm ne.2.2.1)).trans hR, ?_, by simpa using sz, lo, hi, ne⟩
  exact ((bl.setCell (by exact lo.1) _).setCell (by exact lo.1) _).setCell (by exact lo.1) _
theorem Start.drew {W X : World} {n m p gN gL gR : Nat} (h : Start W X n m p gN gL gR) : Start W X.drew n m p gN gL gR := ⟨h.box, h.hN, h.hL, h.hR, h.bl.drew, h.sz, h.lo, h.hi, h.ne⟩
theorem row_of_made {w : World} {g n : Nat} {z : Value} {t : TypeId} (h : w.heap[g]? = some (.cells (madeCells #[z] n) t)) : w.rowIs g t n (fun _ => z) := ⟨_, h, size_madeCells _ _, fun i hi => by simp [madeCells, hi, Nat.mod_one]⟩
/- what lies in memory while the graph is made -/
structure UnAt (w wr : World) (n m p gN gL gR : Nat) (nb : Nat → List Nat) (V : Nat → Value) (L R : Nat → Int) : Prop where
  box : wr.heap[p]? = some (.cells #[.slice (some ⟨gN, 0, none⟩) n n, .slice (some ⟨gL, 0, none⟩) n n, .slice (some ⟨gR, 0, none⟩) m m] 100 (0, 0))
  tab : TabN wr (w.heap.size + 5) gN n nb V
  l : wr.rowIs gL 3 n (ivals L)
  r : wr.rowIs gR 3 m (ivals R)
  bl : Below w.heap.size w wr
  res : wr.heap[w.heap.size]? = some (.cells #[.slice none 0 0, .slice none 0 0, .slice none 0 0] 100 (0, 0))
  sz : w.heap.size + 5 ≤ wr.heap.size
  lo : w.heap.size + 1 ≤ p ∧ w.heap.size + 1 ≤ gN ∧ w.heap.size + 1 ≤ gL ∧ w.heap.size + 1 ≤ gR
  hi : p < w.heap.size + 5 ∧ gN < w.heap.size + 5 ∧ gL < w.heap.size + 5 ∧ gR < w.heap.size + 5
  ne : p ≠ gN ∧ p ≠ gL ∧ p ≠ gR ∧ gN ≠ gL ∧ gN ≠ gR ∧ gL ≠ gR
section
variable {w wr w' : World} {n m p gN gL gR : Nat} {nb : Nat → List Nat} {V : Nat → Value} {L R : Nat → Int}
theorem UnAt.of_start {W : World} {E : Nat → Int × Int} (hW : W = w.alloc (.cells #[.slice none 0 0, .slice none 0 0, .slice none 0 0] 100)) (h : Start W wr n m p gN gL gR) : UnAt w wr n m p gN gL gR (nbs E 0) (fun _ => .slice none 0 0) (fun _ => 0) (fun _ => 0) := by
  have k : W.heap.size = w.heap.size + 1 := by rw [hW]; simp
  have hlo := h.lo
  have hhi := h.hi
  have hsz := h.sz
  have e0 : W.heap[w.heap.size]? = some (.cells #[.slice none 0 0, .slice none 0 0, .slice none 0 0] 100 (0, 0)) := by rw [hW]; exact heap_alloc_new w _
  refine ⟨h.box, ⟨row_of_made h.hN, fun a _ => ⟨rfl, .inl ⟨rfl, rfl⟩⟩, fun a b _ _ _ g e => (by cases e), by omega⟩, row_of_made h.hL, row_of_made h.hR, ?_, ?_, by omega, by omega, by omega, h.ne⟩
  · rw [hW] at h
    exact (below_new w _).trans (h.bl.mono (by simp))
  · exact (h.bl.block _ (by omega)).trans e0
theorem UnAt.below (h : UnAt w wr n m p gN gL gR nb V L R) (hb : Below wr.heap.size wr w') : UnAt w w' n m p gN gL gR nb V L R :=
  ⟨(hb.block p (lt_of_block h.box)).trans h.box, h.tab.below hb, row_below h.l hb, row_below h.r hb, h.bl.trans (hb.mono h.bl.size), (hb.block _ (lt_of_block h.res)).trans h.res, Nat.le_trans h.sz hb.size, h.lo, h.hi, h.ne⟩
theorem UnAt.c0 (h : UnAt w wr n m p gN gL gR nb V L R) : wr.cell? ⟨p, 0, none⟩ = some (.slice (some ⟨gN, 0, none⟩) n n) := cell_of_row _ _ 0 _ _ _ h.box
theorem UnAt.c1 (h : UnAt w wr n m p gN gL gR nb V L R) : wr.cell? ⟨p, 1, none⟩ = some (.slice (some ⟨gL, 0, none⟩) n n) := cell_of_row _ _ 1 _ _ _ h.box
theorem UnAt.c2 (h : UnAt w wr n m p gN gL gR nb V L R) : wr.cell? ⟨p, 2, none⟩ = some (.slice (some ⟨gR, 0, none⟩) m m) := cell_of_row _ _ 2 _ _ _ h.box
theorem UnAt.setL (h : UnAt w wr n m p gN gL gR nb V L R) (a : Nat) (x : Int) : UnAt w (wr.setCell ⟨gL, a, none⟩ (.int .i64 x)) n m p gN gL gR nb V (put L a x) R := by
  have hg := grown_set wr ⟨gL, a, none⟩ (.int .i64 x)
  have far : ∀ b, b ≠ gL → (wr.setCell ⟨gL, a, none⟩ (.int .i64 x)).heap[b]? = wr.heap[b]? := fun b hb => Below.heap_setCell _ _ _ _ (by exact hb)
  have hlo := h.lo
  have hhi := h.hi
  exact ⟨(far p h.ne.2.1).trans h.box, h.tab.grown (g := gL) hg h.ne.2.2.2.1.symm (by omega), row_put h.l x, h.r.of_block (far gR h.ne.2.2.2.2.2.symm), h.bl.setCell (by show w.heap.size ≤ gL; omega) _, (far _ (by show w.heap.size ≠ gL; omega)).trans h.res, by simpa using h.sz, h.lo, h.hi, h.ne⟩
theorem UnAt.setR (h : UnAt w wr n m p gN gL gR nb V L R) (a : Nat) (x : Int) : UnAt w (wr.setCell ⟨gR, a, none⟩ (.int .i64 x)) n m p gN gL gR nb V L (put R a x) := by
  have hg := grown_set wr ⟨gR, a, none⟩ (.int .i64 x)
  have far : ∀ b, b ≠ gR → (wr.setCell ⟨gR, a, none⟩ (.int .i64 x)).heap[b]? = wr.heap[b]? := fun b hb => Below.heap_setCell _ _ _ _ (by exact hb)
  have hlo := h.lo
  have hhi := h.hi
  exact ⟨(far p h.ne.2.2.1).trans h.box, h.tab.grown (g := gR) hg h.ne.2.2.2.2.1.symm (by omega), h.l.of_block (far gL h.ne.2.2.2.2.2), row_put h.r x, h.bl.setCell (by show w.heap.size ≤ gR; omega) _, (far _ (by show w.heap.size ≠ gR; omega)).trans h.res, by simpa using h.sz, h.lo, h.hi, h.ne⟩
theorem UnAt.step (h : UnAt w wr n m p gN gL gR nb V L R) {o : Obj} {a x g c : Nat} (ha : a < n) (hown : w'.ownsRow (w.heap.size + 5) 3 1 (.slice (some ⟨g, 0, none⟩) ((nb a).length + 1) c) ((nb a).length + 1) (vals (nb a ++ [x]))) (hg : (wr.alloc o).grownBy w' (V a).ownBlock) (hat : (V a).ownBlock = some g ∨ (wr.alloc o).heap.size ≤ g) :
    UnAt w (w'.setCell ⟨gN, a, none⟩ (.slice (some ⟨g, 0, none⟩) ((nb a).length + 1) c)) n m p gN gL gR (YtngpfondnampjaaDoor.setL nb a (nb a ++ [x])) (YtngpfondnampjaaDoor.setL V a (.slice (some ⟨g, 0, none⟩) ((nb a).length + 1) c)) L R ∧ w'.rowIs gN 25 n V := by
  have h1 := h.below (below_new wr o)
  obtain ⟨t1, t2⟩ := h1.tab.step ha hown hg hat
  have hlo := h.lo
  have hhi := h.hi
  have hsz := h1.sz
  have hV : ∀ q, (V a).ownBlock = some q → w.heap.size + 5 ≤ q := fun q e => ((h1.tab.own a ha).lt q e).1
  have far : ∀ b, b < w.heap.size + 5 → b ≠ gN → (w'.setCell ⟨gN, a, none⟩ (.slice (some ⟨g, 0, none⟩) ((nb a).length + 1) c)).heap[b]? = (wr.alloc o).heap[b]? := fun b hb hne =>
    (Below.heap_setCell _ _ _ _ (by exact hne)).trans (hg.block b (by omega) (fun e => by have := hV b e.symm; omega))
  have hs : (w'.setCell ⟨gN, a, none⟩ (.slice (some ⟨g, 0, none⟩) ((nb a).length + 1) c)).heap.size = w'.heap.size := by simp
  have hgs := hg.size
  refine ⟨⟨(far p (by omega) h.ne.1).trans h1.box, t1, h1.l.of_block (far gL (by omega) h.ne.2.2.2.1.symm), h1.r.of_block (far gR (by omega) h.ne.2.2.2.2.1.symm), ?_, (far _ (by omega) (by omega)).trans h1.res, by rw [hs]; omega, h.lo, h.hi, h.ne⟩, t2⟩
  refine ⟨?_, ?_, ?_, ?_, fun b hb => (far b (by omega) (by omega)).trans (h1.bl.block b hb)⟩
  · exact hg.os.trans h1.bl.os
  · exact hg.tape.trans h1.bl.tape
  · exact hg.output.trans h1.bl.output
  · rw [hs]; exact Nat.le_trans h1.bl.size hgs
theorem UnAt.far9 {o : Obj} {a q j : Nat} (hg : (wr.alloc o).grownBy w' (V a).ownBlock) (hq : q < wr.heap.size) (hne : (V a).ownBlock ≠ some q) : w'.cell? ⟨q, j, none⟩ = wr.cell? ⟨q, j, none⟩ :=
  (World.cell?_of_block (w := wr.alloc o) (hg.block q (by simp; omega) (fun e => hne e.symm))).trans (World.cell?_of_block (w := wr) (Below.heap_alloc wr o q hq))
end
def minus (K : Nat) : Nat → Int := fun v => if v < K then -1 else 0
theorem put_minus (K : Nat) : put (minus K) K (-1) = minus (K + 1) := funext fun v => by
  unfold put minus
  by_cases e : v = K
  · rw [if_pos e, if_pos (by omega)]
  · rw [if_neg e]
    by_cases e2 : v < K
    · rw [if_pos e2, if_pos (by omega)]
    · rw [if_neg e2, if_neg (by omega)]
theorem minus_zero : (fun _ => 0 : Nat → Int) = minus 0 := funext fun v => by unfold minus; rw [if_neg (by omega)]
/- one append in a region that draws -/
theorem step_append_nat {ops : Array Oper} {o : Oper} {a : Act} {K : Act → World → Prop} {Q : Exit → Act → World → Prop} {Ee : Prop} (hgd : o.guard = none) (s x : Operand)
    (ho : o.op = .call { callee := .builtin .append, args := #[s, x], argTypes := #[25, 25] }) (base : Nat) (v : Value) (l : List Nat) (i : Nat) (w : World) (hs : a.eval s = v)
    (hown : w.ownsRow base 3 1 v l.length (vals l)) (B : Nat) (hx : a.eval x = .slice (some ⟨B, 0, none⟩) 1 1) (hB : w.heap[B]? = some (.cells #[.int .i64 (i : Int)] 3 (0, 0))) (hl : l.length ≤ 1000000) (hbase : base ≤ w.heap.size)
    (h : ∀ g c' w', w'.ownsRow base 3 1 (.slice (some ⟨g, 0, none⟩) (l.length + 1) c') (l.length + 1) (vals (l ++ [i])) → w.grownBy w' v.ownBlock → (v.ownBlock = some g ∨ w.heap.size ≤ g) → K (a.put o.dst (.slice (some ⟨g, 0, none⟩) (l.length + 1) c')) w') :
    if Region.wanted o (yielded ops a.tmps) = true then Oper.wp Tryd.prog o a w K Q else Ee := by
  obtain ⟨i', hi, hz, hsz', hb'⟩ := info_parts Tryd.info3
  refine step_append_lies w hgd s x 25 ho base 3 i' _ 1 8 Tryd.underlying25 hi hz hsz' hb' rfl (by decide) v l.length (vals l) hs hown ⟨B, 0, none⟩ 1 1 [.int .i64 (i : Int)] hx (by simp) ?_ ?_ (by decide) (by unfold maxLen; omega) (by omega) hbase w.heap.size rfl (fun g cap w' h1 h2 h3 _ => h g cap w' (by rw [vals_snoc]; exact h1) h2 (h3.imp id (fun e => by rw [e]; exact Nat.le_refl _)))
  · intro j u hu'
    have hadd : (⟨B, 0, none⟩ : Addr).add j = ⟨B, j, none⟩ := by unfold Addr.add; split <;> simp_all
    rw [hadd, cell_of_row _ _ j _ _ _ hB]
    simpa using hu'
  · intro u hu
    simp at hu
    subst hu; rfl
theorem put3 {X : World} {p : Nat} {y0 y1 y2 : Value} (x0 x1 x2 : Value) (hp : X.heap[p]? = some (.cells #[y0, y1, y2] 100 (0, 0))) :
    (((X.setCell ⟨p, 0, none⟩ x0).setCell ⟨p, 1, none⟩ x1).setCell ⟨p, 2, none⟩ x2).heap[p]? = some (.cells #[x0, x1, x2] 100 (0, 0)) := by
  have h0 := heap_setCell_same X p 0 _ _ x0 hp
  have h1 := heap_setCell_same _ p 1 _ _ x1 h0
  have h2 := heap_setCell_same _ p 2 _ _ x2 h1
  simpa using h2
structure GrAt (w wr : World) (n m gN gL gR : Nat) (nb : Nat → List Nat) (V : Nat → Value) (L R : Nat → Int) : Prop where
  tab : TabN wr (w.heap.size + 5) gN n nb V
  l : wr.rowIs gL 3 n (ivals L)
  r : wr.rowIs gR 3 m (ivals R)
  bl : Below w.heap.size w wr
  lo : w.heap.size ≤ gN ∧ w.heap.size ≤ gL ∧ w.heap.size ≤ gR
  hi : gN < w.heap.size + 5 ∧ gL < w.heap.size + 5 ∧ gR < w.heap.size + 5
  ne : gN ≠ gL ∧ gN ≠ gR ∧ gL ≠ gR
theorem UnAt.out {w wr : World} {n m p gN gL gR : Nat} {nb : Nat → List Nat} {V : Nat → Value} (h : UnAt w wr n m p gN gL gR nb V (minus n) (minus m)) (x0 x1 x2 : Value) :
    GrAt w (((wr.setCell ⟨w.heap.size, 0, none⟩ x0).setCell ⟨w.heap.size, 1, none⟩ x1).setCell ⟨w.heap.size, 2, none⟩ x2) n m gN gL gR nb V (fun _ => -1) (fun _ => -1) := by
  have hlo := h.lo
  have hhi := h.hi
  have far : ∀ b, b ≠ w.heap.size → (((wr.setCell ⟨w.heap.size, 0, none⟩ x0).setCell ⟨w.heap.size, 1, none⟩ x1).setCell ⟨w.heap.size, 2, none⟩ x2).heap[b]? = wr.heap[b]? := fun b hb => by
    rw [Below.heap_setCell _ _ _ _ (by exact hb), Below.heap_setCell _ _ _ _ (by exact hb), Below.heap_setCell _ _ _ _ (by exact hb)]
  have t1 := h.tab.grown (grown_set wr ⟨w.heap.size, 0, none⟩ x0) (by show w.heap.size ≠ gN; omega) (by show w.heap.size < _; omega)
  have t2 := t1.grown (grown_set _ ⟨w.heap.size, 1, none⟩ x1) (by show w.heap.size ≠ gN; omega) (by show w.heap.size < _; omega)
  have t3 := t2.grown (grown_set _ ⟨w.heap.size, 2, none⟩ x2) (by show w.heap.size ≠ gN; omega) (by show w.heap.size < _; omega)
  refine ⟨t3, (h.l.congr fun j hj => ?_).of_block (far gL (by omega)), (h.r.congr fun j hj => ?_).of_block (far gR (by omega)), ((h.bl.setCell (by exact Nat.le_refl _) _).setCell (by exact Nat.le_refl _) _).setCell (by exact Nat.le_refl _) _, by omega, by omega, h.ne.2.2.2⟩
  · unfold ivals minus; rw [if_pos hj]
  · unfold ivals minus; rw [if_pos hj]
def UnEnd (w : World) (n m k : Nat) (E : Nat → Int × Int) (e : Ending) (w' : World) : Prop :=
  ∃ gN gL gR V, e = .returned (.agg #[.slice (some ⟨gN, 0, none⟩) n n, .slice (some ⟨gL, 0, none⟩) n n, .slice (some ⟨gR, 0, none⟩) m m]) ∧ GrAt w w' n m gN gL gR (nbs E k) V (fun _ => -1) (fun _ => -1)
set_option linter.unusedSimpArgs false in
set_option maxRecDepth 100000 in
set_option maxHeartbeats 4000000 in
theorem unmatched_any (n m k c : Nat) (A : Option Addr) (E : Nat → Int × Int) (w : World) (h : Prs w A k E) (hv : VG n m k E) : Calls Tryd.prog 95 #[.int .i64 n, .int .i64 m, .slice A k c] w (UnEnd w n m k E) := by
  have hn := hv.n1
  have hm := hv.m1
  have mk1 := make_rows5 n (by omega)
  have mk2 := make_ints5 n (by omega)
  have mk3 := make_ints5 m (by omega)
  go_enter Tryd.func95, Tryd.ntmps95
  go_upto_region 1 with fail
  generalize hW : w.alloc (.cells #[.slice none 0 0, .slice none 0 0, .slice none 0 0] 100) = W at *
  have HW := Lib.hid hW.symm
  have HH := Lib.hid h
  have HV := Lib.hid hv
  have hk2 := hv.k2
  clear h hv hW
  go_cut [7, 13, 15, 17] from 8 to 19 (fun q x y z wx => ∃ p gN gL gR, q = .pointer (some ⟨p, 0, none⟩) ∧ x = .slice (some ⟨gN, 0, none⟩) n n ∧ y = .slice (some ⟨gL, 0, none⟩) n n ∧ z = .slice (some ⟨gR, 0, none⟩) m m ∧ Start W wx n m p gN gL gR)
  case first =>
    go_region
    all_goals
      go_wp2_with fail
      go_meet
    all_goals
      refine ⟨_, _, _, _, rfl, rfl, rfl, rfl, ?_⟩
    all_goals
      first
        | (refine Start.drew (Start.put (y0 := .slice none 0 0) (y1 := .slice none 0 0) (y2 := .slice none 0 0) ?_ ?_ ?_ ?_ ?_ ?_ ?_ ?_ ?_)
           all_goals first | exact (al4 W _ _ _ _).1 | exact (al4 W _ _ _ _).2.1 | exact (al4 W _ _ _ _).2.2.1 | exact (al4 W _ _ _ _).2.2.2.1 | exact (al4 W _ _ _ _).2.2.2.2.1 | exact (al4 W _ _ _ _).2.2.2.2.2 | omega)
        | (refine Start.drew ⟨?_, ?_, ?_, ?_, ?_, ?_, ?_, ?_, ?_⟩
           all_goals first | exact (al4 W _ _ _ _).1 | exact (al4 W _ _ _ _).2.1 | exact (al4 W _ _ _ _).2.2.1 | exact (al4 W _ _ _ _).2.2.2.1 | exact (al4 W _ _ _ _).2.2.2.2.1 | exact (al4 W _ _ _ _).2.2.2.2.2 | omega)
  case rest =>
    obtain ⟨p, gN, gL, gR, rfl, rfl, rfl, rfl, hst⟩ := hcut
    have hU := UnAt.of_start (E := E) HW.out hst
    clear hst mk1 mk2 mk3 HW
    go_wp2_with fail
    go_loopw [21] (fun i wr => ∃ (K : Nat) (V : Nat → Value), K ≤ k ∧ i = .int .i64 K ∧ UnAt w wr n m p gN gL gR (nbs E K) V (fun _ => 0) (fun _ => 0)) (fun i _ => k - (intOf i).toNat)
    case atStart => exact ⟨0, _, Nat.zero_le _, rfl, hU⟩
    case round =>
      clear hU
      obtain ⟨K0, V, hK, rfl, hU⟩ := hrel
      by_cases hlt : K0 < k
      · obtain ⟨b, off, rfl, hbl, hcz⟩ := (HH.out.below hU.bl) (by omega)
        obtain ⟨x0, x1⟩ := hcz K0 hlt
        clear hcz
        obtain ⟨⟨g1, g2⟩, g3, g4⟩ := HV.out.ran K0 hlt
        obtain ⟨a, ha⟩ := Int.eq_ofNat_of_zero_le g1
        obtain ⟨x, hx⟩ := Int.eq_ofNat_of_zero_le g3
        have han : a < n := by omega
        have hEK : E K0 = ((a : Int), (x : Int)) := Prod.ext ha hx
        have hnb := Lib.hid (nbs_step hEK)
        have hll := nbs_len E K0 a
        rw [ha] at x0
        rw [hx] at x1
        clear ha hx g1 g2 g3 g4 hEK
        have hwrap : IntKind.i64.wrap ((K0 : Int) + 1) = (K0 : Int) + 1 := IntWalk.i64_in _ (by omega)
        obtain ⟨o, ho⟩ : ∃ o, o = Obj.cells #[.int .i64 a, .int .i64 x] 78 := ⟨_, rfl⟩
        have hU1 := hU.below (below_new wr o)
        have eP : (wr.alloc o).heap[wr.heap.size]? = some o := heap_alloc_new wr o
        rw [ho] at hU1 eP
        clear ho
        go_upto_region 5 with fail
        generalize wr.alloc (.cells #[.int .i64 a, .int .i64 x] 78) = W1 at *
        have u0 : W1.cell? ⟨wr.heap.size, 0, none⟩ = some (.int .i64 a) := cell_of_row _ _ 0 _ _ _ eP
        have u1 : W1.cell? ⟨wr.heap.size, 1, none⟩ = some (.int .i64 x) := cell_of_row _ _ 1 _ _ _ eP
        have c0 := hU1.c0
        have r0 : W1.cell? ⟨gN, a, none⟩ = some (V a) := hU1.tab.rows.cell han
        have d0 : W1.drew.cell? ⟨p, 0, none⟩ = _ := c0
        have v0 : W1.drew.cell? ⟨wr.heap.size, 0, none⟩ = some (.int .i64 a) := u0
        have hva : Hid ((V a).ownBlock ≠ some wr.heap.size ∧ (V a).ownBlock ≠ some p) := Lib.hid ⟨fun e => by have := ((hU.tab.own a han).lt _ e).2; omega, fun e => by have := ((hU.tab.own a han).lt _ e).1; have := hU.hi; omega⟩
        have hpn : p ≠ gN := hU.ne.1
        have hrn : wr.heap.size ≠ gN := by have := hU.tab.rows.lt; omega
        have HC0 := Lib.hid d0
        have HV0 := Lib.hid v0
        have HU1 : Hid (UnAt w W1.drew n m p gN gL gR (nbs E K0) V (fun _ => 0) (fun _ => 0)) := Lib.hid (hU1.below (below_drewN (Below.refl _ _) 1))
        have hpl := lt_of_block hU1.box
        have hgl := hU1.tab.rows.lt
        have hrl := lt_of_block eP
        clear hU hU1 eP x0 x1 hbl
        clear HH HV
        have hne9 : Hid (p ≠ gN ∧ wr.heap.size ≠ gN) := Lib.hid ⟨hpn, hrn⟩
        have HS0 : Hid (W1.drew.cell? ⟨p, 0, none⟩ = some (.slice (some ⟨gN, 0, none⟩) n n) ∧ W1.drew.cell? ⟨wr.heap.size, 0, none⟩ = some (.int .i64 a) ∧ W1.drew.cell? ⟨wr.heap.size, 1, none⟩ = some (.int .i64 x)) := Lib.hid ⟨c0, u0, u1⟩
        have HS1 : Hid (∀ w', Below W1.drew.heap.size W1.drew w' → w'.cell? ⟨p, 0, none⟩ = some (.slice (some ⟨gN, 0, none⟩) n n) ∧ w'.cell? ⟨wr.heap.size, 0, none⟩ = some (.int .i64 a) ∧ w'.cell? ⟨wr.heap.size, 1, none⟩ = some (.int .i64 x)) :=
          Lib.hid fun w' b => ⟨(b.cell (p := ⟨p, 0, none⟩) hpl).trans c0, (b.cell (p := ⟨wr.heap.size, 0, none⟩) hrl).trans u0, (b.cell (p := ⟨wr.heap.size, 1, none⟩) hrl).trans u1⟩
        clear hpn hrn
        refine wp_region_held_drew (S := (fun w' => w'.cell? ⟨p, 0, none⟩ = some (.slice (some ⟨gN, 0, none⟩) n n) ∧ w'.cell? ⟨wr.heap.size, 0, none⟩ = some (.int .i64 a) ∧ w'.cell? ⟨wr.heap.size, 1, none⟩ = some (.int .i64 x))) (by kernel_rfl) HS0.out (fun hHeld => ?_)
        refine wpAnyH_take (i := 0) (v := ?_) rfl (by kernel_rfl) (by kernel_rfl) (by kernel_rfl) (fun _ _ _ h => h) (Or.inl ⟨by rfl, ?_⟩) (by assumption) ?_
        rotate_left 1
        · intro w hSw
          (try dsimp only at hSw)
          go_simp
          all_goals with_reducible rfl
        simp only [Act.put, List.setIfInBounds_toArray, List.set_cons_zero, List.set_cons_succ]
        refine wpAnyH_take (i := 1) (v := ?_) rfl (by kernel_rfl) (by kernel_rfl) (by kernel_rfl) (fun _ _ _ h => h) (Or.inl ⟨by rfl, ?_⟩) (by assumption) ?_
        rotate_left 1
        · intro w hSw
          (try dsimp only at hSw)
          go_simp
          all_goals with_reducible rfl
        simp only [Act.put, List.setIfInBounds_toArray, List.set_cons_zero, List.set_cons_succ]
        refine wpAnyH_take (i := 2) (v := ?_) rfl (by kernel_rfl) (by kernel_rfl) (by kernel_rfl) (fun _ _ _ h => h) (Or.inl ⟨by rfl, ?_⟩) (by assumption) ?_
        rotate_left 1
        · intro w hSw
          (try dsimp only at hSw)
          go_simp
          all_goals with_reducible rfl
        simp only [Act.put, List.setIfInBounds_toArray, List.set_cons_zero, List.set_cons_succ]
        refine wpAnyH_take (i := 3) (v := ?_) rfl (by kernel_rfl) (by kernel_rfl) (by kernel_rfl) (fun _ _ _ h => h) (Or.inl ⟨by rfl, ?_⟩) (by assumption) ?_
        rotate_left 1
        · intro w hSw
          (try dsimp only at hSw)
          go_simp
          all_goals with_reducible rfl
        simp only [Act.put, List.setIfInBounds_toArray, List.set_cons_zero, List.set_cons_succ]
        refine wpAnyH_take (i := 4) (v := ?_) rfl (by kernel_rfl) (by kernel_rfl) (by kernel_rfl) (fun _ _ _ h => h) (Or.inl ⟨by rfl, ?_⟩) (by assumption) ?_
        rotate_left 1
        · intro w hSw
          (try dsimp only at hSw)
          go_simp
          all_goals with_reducible rfl
        simp only [Act.put, List.setIfInBounds_toArray, List.set_cons_zero, List.set_cons_succ]
        refine wpAnyH_take (i := 5) (v := ?_) rfl (by kernel_rfl) (by kernel_rfl) (by kernel_rfl) (fun _ _ _ h => h) (Or.inl ⟨by rfl, ?_⟩) (by assumption) ?_
        rotate_left 1
        · intro w hSw
          (try dsimp only at hSw)
          go_simp
          all_goals with_reducible rfl
        simp only [Act.put, List.setIfInBounds_toArray, List.set_cons_zero, List.set_cons_succ]
        refine wpAnyH_take (i := 6) (v := ?_) rfl (by kernel_rfl) (by kernel_rfl) (by kernel_rfl) (fun _ _ _ h => h) (Or.inl ⟨by rfl, ?_⟩) (by assumption) ?_
        rotate_left 1
        · intro w hSw
          (try dsimp only at hSw)
          go_simp
          all_goals with_reducible rfl
        simp only [Act.put, List.setIfInBounds_toArray, List.set_cons_zero, List.set_cons_succ]
        refine wpAnyH_take (i := 7) (v := ?_) rfl (by kernel_rfl) (by kernel_rfl) (by kernel_rfl) (fun _ _ _ h => h) (Or.inl ⟨by rfl, ?_⟩) (by assumption) ?_
        rotate_left 1
        · intro w hSw
          (try dsimp only at hSw)
          go_simp
          all_goals with_reducible rfl
        simp only [Act.put, List.setIfInBounds_toArray, List.set_cons_zero, List.set_cons_succ]
        refine wpAnyH_take (i := 8) (v := ?_) rfl (by kernel_rfl) (by kernel_rfl) (by kernel_rfl) (fun _ _ _ h => h) (Or.inl ⟨by rfl, ?_⟩) (by assumption) ?_
        rotate_left 1
        · intro w hSw
          (try dsimp only at hSw)
          go_simp
          all_goals with_reducible rfl
        simp only [Act.put, List.setIfInBounds_toArray, List.set_cons_zero, List.set_cons_succ]
        refine wpAnyH_take (i := 10) (v := ?_) rfl (by kernel_rfl) (by kernel_rfl) (by kernel_rfl) (fun _ _ _ h => h) (Or.inl ⟨by rfl, ?_⟩) (by assumption) ?_
        rotate_left 1
        · intro w hSw
          (try dsimp only at hSw)
          go_simp
          all_goals with_reducible rfl
        simp only [Act.put, List.setIfInBounds_toArray, List.set_cons_zero, List.set_cons_succ]
        refine wpAnyH_take (i := 11) (v := ?_) rfl (by kernel_rfl) (by kernel_rfl) (by kernel_rfl) (fun _ _ _ h => h) (Or.inl ⟨by rfl, ?_⟩) (by assumption) ?_
        rotate_left 1
        · intro w hSw
          (try dsimp only at hSw)
          go_simp
          all_goals with_reducible rfl
        simp only [Act.put, List.setIfInBounds_toArray, List.set_cons_zero, List.set_cons_succ]
        refine wpAnyH_ready (rs := [9, 12]) (by kernel_rfl) (by simp) ?_
        refine AllReadyH.cons rfl (fun K hK => ?_) (AllReadyH.cons rfl (fun K hK => ?_) AllReadyH.nil)
        · go_simp
          refine hK.out _ _ hHeld (fun hHeld => ?_)
          clear hK K
          refine wpAnyH_ready (rs := [12]) (by kernel_rfl) (by simp) ?_
          refine AllReadyH.cons rfl (fun K hK => ?_) AllReadyH.nil
          go_simp
          refine hK.out _ _ (HS1.out _ (below_new _ _)) (fun hHeld => ?_)
          clear hK K
          refine wpAnyH_ready (rs := [13]) (by kernel_rfl) (by simp) ?_
          refine AllReadyH.cons rfl (fun K hK => ?_) AllReadyH.nil
          refine step_append_nat rfl (.tmp 34) (.tmp 37) rfl (w.heap.size + 5) _ (nbs E K0 a) x _ (by simp only [Act.eval]; rfl) ((HU1.out.tab.own a han).alloc _) W1.heap.size (by simp only [Act.eval]; rfl) (heap_alloc_new W1.drew _) (by omega) (Nat.le_trans HU1.out.sz (below_new _ _).size) ?_
          intro g9 c9 w9 hown9 hg9 hat9
          obtain ⟨hA9, hN9⟩ := HU1.out.step han hown9 hg9 hat9
          have f9 := hN9.frozen a
          have k9 : w9.cell? ⟨gN, a, none⟩ = some (V a) := hN9.cell han
          have s9 : w9.cell? ⟨p, 0, none⟩ = some (.slice (some ⟨gN, 0, none⟩) n n) ∧ w9.cell? ⟨wr.heap.size, 0, none⟩ = some (.int .i64 a) ∧ w9.cell? ⟨wr.heap.size, 1, none⟩ = some (.int .i64 x) := ⟨(UnAt.far9 (V := V) (a := a) (wr := W1.drew) (j := 0) hg9 hpl hva.out.2).trans HS0.out.1, (UnAt.far9 (V := V) (a := a) (wr := W1.drew) (j := 0) hg9 hrl hva.out.1).trans HS0.out.2.1, (UnAt.far9 (V := V) (a := a) (wr := W1.drew) (j := 1) hg9 hrl hva.out.1).trans HS0.out.2.2⟩
          have s10 : (w9.setCell ⟨gN, a, none⟩ (.slice (some ⟨g9, 0, none⟩) ((nbs E K0 a).length + 1) c9)).cell? ⟨p, 0, none⟩ = some (.slice (some ⟨gN, 0, none⟩) n n) ∧ (w9.setCell ⟨gN, a, none⟩ (.slice (some ⟨g9, 0, none⟩) ((nbs E K0 a).length + 1) c9)).cell? ⟨wr.heap.size, 0, none⟩ = some (.int .i64 a) ∧ (w9.setCell ⟨gN, a, none⟩ (.slice (some ⟨g9, 0, none⟩) ((nbs E K0 a).length + 1) c9)).cell? ⟨wr.heap.size, 1, none⟩ = some (.int .i64 x) := ⟨(World.cell?_of_block (w := w9) (Below.heap_setCell _ _ _ _ (by exact hne9.out.1))).trans s9.1, (World.cell?_of_block (w := w9) (Below.heap_setCell _ _ _ _ (by exact hne9.out.2))).trans s9.2.1, (World.cell?_of_block (w := w9) (Below.heap_setCell _ _ _ _ (by exact hne9.out.2))).trans s9.2.2⟩
          refine hK.out _ _ s9 (fun hHeld => ?_)
          clear hK K
          simp only [Act.put, List.setIfInBounds_toArray, List.set_cons_zero, List.set_cons_succ]
          refine wpAnyH_ready (rs := [14]) (by kernel_rfl) (by simp) ?_
          refine AllReadyH.cons rfl (fun K hK => ?_) AllReadyH.nil
          go_simp
          refine hK.out _ _ hHeld (fun hHeld => ?_)
          clear hK K
          refine wpAnyH_ready (rs := [15]) (by kernel_rfl) (by simp) ?_
          refine AllReadyH.cons rfl (fun K hK => ?_) AllReadyH.nil
          go_simp
          refine hK.out _ _ s10 (fun hHeld => ?_)
          clear hK K
          refine wpAnyH_done (by kernel_rfl) ?_ _
          clear HU1 hown9 hg9 hN9 hat9 d0 v0 u0 u1 c0 r0 HC0 HV0 HS0 HS1 s9 s10 hHeld
          go_wp2_with fail
          clear k9 f9
          go_roundw
          case rel => exact ⟨K0 + 1, _, by omega, by go_num, by rw [hnb.out]; exact hA9⟩
          case measure => simp [intOf]; omega
        · go_simp
          refine hK.out _ _ (HS1.out _ (below_new _ _)) (fun hHeld => ?_)
          clear hK K
          refine wpAnyH_ready (rs := [9]) (by kernel_rfl) (by simp) ?_
          refine AllReadyH.cons rfl (fun K hK => ?_) AllReadyH.nil
          go_simp
          refine hK.out _ _ hHeld (fun hHeld => ?_)
          clear hK K
          refine wpAnyH_ready (rs := [13]) (by kernel_rfl) (by simp) ?_
          refine AllReadyH.cons rfl (fun K hK => ?_) AllReadyH.nil
          refine step_append_nat rfl (.tmp 34) (.tmp 37) rfl (w.heap.size + 5) _ (nbs E K0 a) x _ (by simp only [Act.eval]; rfl) ((HU1.out.tab.own a han).alloc _) W1.heap.size (by simp only [Act.eval]; rfl) (heap_alloc_new W1.drew _) (by omega) (Nat.le_trans HU1.out.sz (below_new _ _).size) ?_
          intro g9 c9 w9 hown9 hg9 hat9
          obtain ⟨hA9, hN9⟩ := HU1.out.step han hown9 hg9 hat9
          have f9 := hN9.frozen a
          have k9 : w9.cell? ⟨gN, a, none⟩ = some (V a) := hN9.cell han
          have s9 : w9.cell? ⟨p, 0, none⟩ = some (.slice (some ⟨gN, 0, none⟩) n n) ∧ w9.cell? ⟨wr.heap.size, 0, none⟩ = some (.int .i64 a) ∧ w9.cell? ⟨wr.heap.size, 1, none⟩ = some (.int .i64 x) := ⟨(UnAt.far9 (V := V) (a := a) (wr := W1.drew) (j := 0) hg9 hpl hva.out.2).trans HS0.out.1, (UnAt.far9 (V := V) (a := a) (wr := W1.drew) (j := 0) hg9 hrl hva.out.1).trans HS0.out.2.1, (UnAt.far9 (V := V) (a := a) (wr := W1.drew) (j := 1) hg9 hrl hva.out.1).trans HS0.out.2.2⟩
          have s10 : (w9.setCell ⟨gN, a, none⟩ (.slice (some ⟨g9, 0, none⟩) ((nbs E K0 a).length + 1) c9)).cell? ⟨p, 0, none⟩ = some (.slice (some ⟨gN, 0, none⟩) n n) ∧ (w9.setCell ⟨gN, a, none⟩ (.slice (some ⟨g9, 0, none⟩) ((nbs E K0 a).length + 1) c9)).cell? ⟨wr.heap.size, 0, none⟩ = some (.int .i64 a) ∧ (w9.setCell ⟨gN, a, none⟩ (.slice (some ⟨g9, 0, none⟩) ((nbs E K0 a).length + 1) c9)).cell? ⟨wr.heap.size, 1, none⟩ = some (.int .i64 x) := ⟨(World.cell?_of_block (w := w9) (Below.heap_setCell _ _ _ _ (by exact hne9.out.1))).trans s9.1, (World.cell?_of_block (w := w9) (Below.heap_setCell _ _ _ _ (by exact hne9.out.2))).trans s9.2.1, (World.cell?_of_block (w := w9) (Below.heap_setCell _ _ _ _ (by exact hne9.out.2))).trans s9.2.2⟩
          refine hK.out _ _ s9 (fun hHeld => ?_)
          clear hK K
          simp only [Act.put, List.setIfInBounds_toArray, List.set_cons_zero, List.set_cons_succ]
          refine wpAnyH_ready (rs := [14]) (by kernel_rfl) (by simp) ?_
          refine AllReadyH.cons rfl (fun K hK => ?_) AllReadyH.nil
          go_simp
          refine hK.out _ _ hHeld (fun hHeld => ?_)
          clear hK K
          refine wpAnyH_ready (rs := [15]) (by kernel_rfl) (by simp) ?_
          refine AllReadyH.cons rfl (fun K hK => ?_) AllReadyH.nil
          go_simp
          refine hK.out _ _ s10 (fun hHeld => ?_)
          clear hK K
          refine wpAnyH_done (by kernel_rfl) ?_ _
          clear HU1 hown9 hg9 hN9 hat9 d0 v0 u0 u1 c0 r0 HC0 HV0 HS0 HS1 s9 s10 hHeld
          go_wp2_with fail
          clear k9 f9
          go_roundw
          case rel => exact ⟨K0 + 1, _, by omega, by go_num, by rw [hnb.out]; exact hA9⟩
          case measure => simp [intOf]; omega
      · obtain rfl : K0 = k := by omega
        have c1 := hU.c1
        clear HV HH
        go_wp2_with fail
        clear c1
        rw [minus_zero] at hU
        go_loopw [44] (fun i wr => ∃ K2 : Nat, K2 ≤ n ∧ i = .int .i64 K2 ∧ UnAt w wr n m p gN gL gR (nbs E K0) V (minus K2) (minus 0)) (fun i _ => n - (intOf i).toNat)
        case atStart => exact ⟨0, Nat.zero_le _, rfl, hU⟩
        case round =>
          clear hU
          obtain ⟨K2, hK2, rfl, hU⟩ := hrel
          have c1 := hU.c1
          have c2 := hU.c2
          by_cases hlt2 : K2 < n
          · have x0 : wr.cell? ⟨gL, K2, none⟩ = _ := hU.l.cell hlt2
            have f0 := hU.l.frozen K2
            have hwrap : IntKind.i64.wrap ((K2 : Int) + 1) = (K2 : Int) + 1 := IntWalk.i64_in _ (by omega)
            have hU2 := hU.setL K2 (-1)
            rw [put_minus] at hU2
            clear hU
            go_wp2_with fail
            go_roundw
            case rel => exact ⟨K2 + 1, hlt2, by go_num, hU2⟩
            case measure => simp [intOf]; omega
          · obtain rfl : K2 = n := by omega
            go_wp2_with fail
            clear c1 c2
            go_loopw [55] (fun i wr => ∃ K3 : Nat, K3 ≤ m ∧ i = .int .i64 K3 ∧ UnAt w wr K2 m p gN gL gR (nbs E K0) V (minus K2) (minus K3)) (fun i _ => m - (intOf i).toNat)
            case atStart => exact ⟨0, Nat.zero_le _, rfl, hU⟩
            case round =>
              clear hU
              obtain ⟨K3, hK3, rfl, hU⟩ := hrel
              have c0 := hU.c0
              have c1 := hU.c1
              have c2 := hU.c2
              by_cases hlt3 : K3 < m
              · have x0 : wr.cell? ⟨gR, K3, none⟩ = _ := hU.r.cell hlt3
                have f0 := hU.r.frozen K3
                have hwrap : IntKind.i64.wrap ((K3 : Int) + 1) = (K3 : Int) + 1 := IntWalk.i64_in _ (by omega)
                have hU2 := hU.setR K3 (-1)
                rw [put_minus] at hU2
                clear hU
                go_wp2_with fail
                go_roundw
                case rel => exact ⟨K3 + 1, hlt3, by go_num, hU2⟩
                case measure => simp [intOf]; omega
              · obtain rfl : K3 = m := by omega
                have e0 : wr.cell? ⟨w.heap.size, 0, none⟩ = some (.slice none 0 0) := cell_of_row _ _ 0 _ _ _ hU.res
                have e1 : wr.cell? ⟨w.heap.size, 1, none⟩ = some (.slice none 0 0) := cell_of_row _ _ 1 _ _ _ hU.res
                have e2 : wr.cell? ⟨w.heap.size, 2, none⟩ = some (.slice none 0 0) := cell_of_row _ _ 2 _ _ _ hU.res
                have z0 := frozen_of_row _ _ 0 _ _ hU.res
                have z1 := frozen_of_row _ _ 1 _ _ hU.res
                have z2 := frozen_of_row _ _ 2 _ _ hU.res
                have HU := Lib.hid hU
                clear hU
                go_wp2_with fail
                have hres := put3 (.slice (some ⟨gN, 0, none⟩) K2 K2) (.slice (some ⟨gL, 0, none⟩) K2 K2) (.slice (some ⟨gR, 0, none⟩) K3 K3) HU.out.res
                have hout := HU.out.out (.slice (some ⟨gN, 0, none⟩) K2 K2) (.slice (some ⟨gL, 0, none⟩) K2 K2) (.slice (some ⟨gR, 0, none⟩) K3 K3)
                generalize ((wr.setCell ⟨w.heap.size, 0, none⟩ (.slice (some ⟨gN, 0, none⟩) K2 K2)).setCell ⟨w.heap.size, 1, none⟩ (.slice (some ⟨gL, 0, none⟩) K2 K2)).setCell ⟨w.heap.size, 2, none⟩ (.slice (some ⟨gR, 0, none⟩) K3 K3) = W9 at *
                have k0 := cell_of_row _ _ 0 _ _ _ hres
                have k1 := cell_of_row _ _ 1 _ _ _ hres
                have k2 := cell_of_row _ _ 2 _ _ _ hres
                refine bodyPost_ret (v := .agg #[.slice (some ⟨gN, 0, none⟩) K2 K2, .slice (some ⟨gL, 0, none⟩) K2 K2, .slice (some ⟨gR, 0, none⟩) K3 K3]) (by simp [results, Tryd.results95, go_sem, k0, k1, k2]) rfl ?_
                exact ⟨gN, gL, gR, V, rfl, hout⟩
end Go.Proofs.YtngpfondnampjaaDoor
