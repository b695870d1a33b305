/- Residual networks in memory; the contracts of forward, backward and put. -/
import Derived.Test.YtjdceafkcakbjaaFRep
namespace Go.Proofs.Ytjdceafkcakbjaa
open Go.RowKit
theorem row_below {w w' : World} {g : Nat} {t : TypeId} {n : Nat} {f : Nat → Value} (h : w.rowIs g t n f) (hb : Below w.heap.size w w') : w'.rowIs g t n f := h.of_block (hb.block g h.lt)
def arcCells (T R B X : Nat → Int) : Nat → Value := fun i => .int .i64 (if i % 4 = 0 then T (i / 4) else if i % 4 = 1 then R (i / 4) else if i % 4 = 2 then B (i / 4) else X (i / 4))
def ivals (F : Nat → Int) : Nat → Value := fun v => .int .i64 (F v)
structure ResB (w : World) (m2 n gr gA gF : Nat) (T R B X F : Nat → Int) : Prop where
  box : w.heap[gr]? = some (.cells #[.slice (some ⟨gA, 0, none⟩) m2 m2, .slice (some ⟨gF, 0, none⟩) n n] 74 (0, 0))
  arcs : w.rowIs gA 71 (m2 * 4) (arcCells T R B X)
  first : w.rowIs gF 3 n (ivals F)
  n1 : gA ≠ gF
  n2 : gr ≠ gA
  n3 : gr ≠ gF
def up (f : Nat → Int) (k : Nat) (x : Int) : Nat → Int := fun j => if j = k then x else f j
section
variable {w w' : World} {m2 n gr gA gF : Nat} {T R B X F : Nat → Int}
theorem ResB.below (h : ResB w m2 n gr gA gF T R B X F) (hb : Below w.heap.size w w') : ResB w' m2 n gr gA gF T R B X F :=
  ⟨(hb.block gr (lt_of_block h.box)).trans h.box, row_below h.arcs hb, row_below h.first hb, h.n1, h.n2, h.n3⟩
theorem ResB.drew (h : ResB w m2 n gr gA gF T R B X F) : ResB w.drew m2 n gr gA gF T R B X F := ⟨h.box, h.arcs, h.first, h.n1, h.n2, h.n3⟩
theorem ResB.b0 (h : ResB w m2 n gr gA gF T R B X F) : w.cell? ⟨gr, 0, none⟩ = some (.slice (some ⟨gA, 0, none⟩) m2 m2) := cell_of_row _ _ 0 _ _ _ h.box
theorem ResB.b1 (h : ResB w m2 n gr gA gF T R B X F) : w.cell? ⟨gr, 1, none⟩ = some (.slice (some ⟨gF, 0, none⟩) n n) := cell_of_row _ _ 1 _ _ _ h.box
theorem ResB.f (h : ResB w m2 n gr gA gF T R B X F) {v : Nat} (hv : v < n) : w.cell? ⟨gF, v, none⟩ = some (.int .i64 (F v)) := h.first.cell hv
theorem ResB.t (h : ResB w m2 n gr gA gF T R B X F) {k : Nat} (hk : k < m2) : w.cell? ⟨gA, k * 4, none⟩ = some (.int .i64 (T k)) := by
  rw [h.arcs.cell (i := k * 4) (by omega)]; unfold arcCells; rw [if_pos (by omega), show k * 4 / 4 = k by omega]
theorem ResB.r (h : ResB w m2 n gr gA gF T R B X F) {k : Nat} (hk : k < m2) : w.cell? ⟨gA, k * 4 + 1, none⟩ = some (.int .i64 (R k)) := by
  rw [h.arcs.cell (i := k * 4 + 1) (by omega)]; unfold arcCells; rw [if_neg (by omega), if_pos (by omega), show (k * 4 + 1) / 4 = k by omega]
theorem ResB.b (h : ResB w m2 n gr gA gF T R B X F) {k : Nat} (hk : k < m2) : w.cell? ⟨gA, k * 4 + 2, none⟩ = some (.int .i64 (B k)) := by
  rw [h.arcs.cell (i := k * 4 + 2) (by omega)]; unfold arcCells; rw [if_neg (by omega), if_neg (by omega), if_pos (by omega), show (k * 4 + 2) / 4 = k by omega]
theorem ResB.x (h : ResB w m2 n gr gA gF T R B X F) {k : Nat} (hk : k < m2) : w.cell? ⟨gA, k * 4 + 3, none⟩ = some (.int .i64 (X k)) := by
  rw [h.arcs.cell (i := k * 4 + 3) (by omega)]; unfold arcCells; rw [if_neg (by omega), if_neg (by omega), if_neg (by omega), show (k * 4 + 3) / 4 = k by omega]
theorem ResB.setArc (h : ResB w m2 n gr gA gF T R B X F) (k : Nat) (t r b x : Int) :
    ResB ((((w.setCell ⟨gA, k * 4, none⟩ (.int .i64 t)).setCell ⟨gA, k * 4 + 1, none⟩ (.int .i64 r)).setCell ⟨gA, k * 4 + 2, none⟩ (.int .i64 b)).setCell ⟨gA, k * 4 + 3, none⟩ (.int .i64 x)) m2 n gr gA gF (up T k t) (up R k r) (up B k b) (up X k x) F := by
  refine ⟨?_, ((((h.arcs.set (k * 4) _).set (k * 4 + 1) _).set (k * 4 + 2) _).set (k * 4 + 3) _).congr (fun j _ => ?_), ?_, h.n1, h.n2, h.n3⟩
  · rw [Below.heap_setCell _ _ _ _ (by exact h.n2), Below.heap_setCell _ _ _ _ (by exact h.n2), Below.heap_setCell _ _ _ _ (by exact h.n2), Below.heap_setCell _ _ _ _ (by exact h.n2)]; exact h.box
  · have hj : j = k * 4 ∨ j = k * 4 + 1 ∨ j = k * 4 + 2 ∨ j = k * 4 + 3 ∨ j / 4 ≠ k := by omega
    unfold arcCells up
    rcases hj with rfl | rfl | rfl | rfl | hj
    · rw [if_neg (by omega), if_neg (by omega), if_neg (by omega), if_pos rfl, if_pos (by omega), if_pos (by omega)]
    · rw [if_neg (by omega), if_neg (by omega), if_pos rfl, if_neg (by omega), if_pos (by omega), if_pos (by omega)]
    · rw [if_neg (by omega), if_pos rfl, if_neg (by omega), if_neg (by omega), if_pos (by omega), if_pos (by omega)]
    · rw [if_pos rfl, if_neg (by omega), if_neg (by omega), if_neg (by omega), if_pos (by omega)]
    · rw [if_neg (by omega), if_neg (by omega), if_neg (by omega), if_neg (by omega), if_neg hj, if_neg hj, if_neg hj, if_neg hj]
  · exact (((h.first.setOther (by exact h.n1.symm) _).setOther (by exact h.n1.symm) _).setOther (by exact h.n1.symm) _).setOther (by exact h.n1.symm) _
theorem ResB.setFirst (h : ResB w m2 n gr gA gF T R B X F) (a : Nat) (x : Int) : ResB (w.setCell ⟨gF, a, none⟩ (.int .i64 x)) m2 n gr gA gF T R B X (up F a x) :=
  ⟨(Below.heap_setCell _ _ _ _ (by exact h.n3)).trans h.box, h.arcs.setOther (by exact h.n1) _, (h.first.set a _).congr fun j _ => by
    unfold ivals up
    by_cases e : j = a
    · rw [if_pos e, if_pos e]
    · rw [if_neg e, if_neg e], h.n1, h.n2, h.n3⟩
theorem ResB.setRest (h : ResB w m2 n gr gA gF T R B X F) (k : Nat) (x : Int) : ResB (w.setCell ⟨gA, k * 4 + 1, none⟩ (.int .i64 x)) m2 n gr gA gF T (up R k x) B X F :=
  ⟨(Below.heap_setCell _ _ _ _ (by exact h.n2)).trans h.box, (h.arcs.set (k * 4 + 1) _).congr (fun j _ => by
    unfold arcCells up
    by_cases e : j = k * 4 + 1
    · rw [if_pos e, if_neg (by omega), if_pos (by omega), if_pos (by omega)]
    · rw [if_neg e]
      by_cases e0 : j % 4 = 0
      · rw [if_pos e0, if_pos e0]
      · rw [if_neg e0, if_neg e0]
        by_cases e1 : j % 4 = 1
        · rw [if_pos e1, if_pos e1, if_neg (by omega)]
        · rw [if_neg e1, if_neg e1]), h.first.setOther (by exact h.n1.symm) _, h.n1, h.n2, h.n3⟩
theorem ResB.congr {T' R' B' X' F' : Nat → Int} (h : ResB w m2 n gr gA gF T R B X F) (eT : ∀ k, k < m2 → T k = T' k) (eR : ∀ k, k < m2 → R k = R' k) (eB : ∀ k, k < m2 → B k = B' k) (eX : ∀ k, k < m2 → X k = X' k) (eF : ∀ v, v < n → F v = F' v) :
    ResB w m2 n gr gA gF T' R' B' X' F' :=
  ⟨h.box, h.arcs.congr fun j hj => by unfold arcCells; rw [eT _ (by omega), eR _ (by omega), eB _ (by omega), eX _ (by omega)], h.first.congr fun v hv => by unfold ivals; rw [eF v hv], h.n1, h.n2, h.n3⟩
end
theorem forward_any (k : Nat) (w : World) (h : k ≤ 1000000) : Calls Try.prog 49 #[.int .i64 k] w fun e w' => e = .returned (.int .i64 (2 * k : Nat)) ∧ w = w' := by
  have hw : IntKind.i64.wrap (2 * (k : Int)) = 2 * (k : Int) := IntWalk.i64_in _ (by omega)
  go_enter Try.func49, Try.ntmps49
  go_wp2
  go_ret
  exact ⟨ret_of (by omega), rfl⟩
theorem backward_any (k : Nat) (w : World) (h : k ≤ 1000000) : Calls Try.prog 68 #[.int .i64 k] w fun e w' => e = .returned (.int .i64 (2 * k + 1 : Nat)) ∧ w = w' := by
  have hw : IntKind.i64.wrap (2 * (k : Int)) = 2 * (k : Int) := IntWalk.i64_in _ (by omega)
  have hw2 : IntKind.i64.wrap (2 * (k : Int) + 1) = 2 * (k : Int) + 1 := IntWalk.i64_in _ (by omega)
  go_enter Try.func68, Try.ntmps68
  go_wp2
  go_ret
  exact ⟨ret_of (by omega), rfl⟩
def Apart (w w' : World) (g h : Nat) : Prop := ∀ b, b < w.heap.size → b ≠ g → b ≠ h → w'.heap[b]? = w.heap[b]?
theorem apart_set {w w' : World} {g h : Nat} (k : Apart w w' g h) {q : Addr} (hq : q.block = g ∨ q.block = h) (u : Value) : Apart w (w'.setCell q u) g h := fun b hb h1 h2 =>
  (Below.heap_setCell w' q u b (by rcases hq with e | e <;> rw [e] <;> assumption)).trans (k b hb h1 h2)
theorem Apart.drew {w w' : World} {g h : Nat} (k : Apart w w' g h) : Apart w w'.drew g h := k
theorem apart_new (w : World) (o : Obj) (g h : Nat) : Apart w (w.alloc o) g h := fun b hb _ _ => (below_new w o).block b hb
def PutEnd (w : World) (lim m2 n gr gA gF : Nat) (T R B X F : Nat → Int) (k a : Nat) (t r b : Int) (e : Ending) (w' : World) : Prop :=
  e = .returned (.tuple #[]) ∧ ResB w' m2 n gr gA gF (up T k t) (up R k r) (up B k b) (up X k (F a)) (up F a k) ∧ Below lim w w' ∧ Apart w w' gA gF
set_option maxRecDepth 100000 in
set_option maxHeartbeats 4000000 in
theorem put_any (lim m2 n gr gA gF : Nat) (T R B X F : Nat → Int) (k a : Nat) (t r b x : Int) (w : World) (h : ResB w m2 n gr gA gF T R B X F) (hk : k < m2) (ha : a < n) (l1 : lim ≤ gA) (l2 : lim ≤ gF) (l3 : lim ≤ w.heap.size) :
    Calls Try.prog 67 #[.pointer (some ⟨gr, 0, none⟩), .int .i64 k, .int .i64 a, .agg #[.int .i64 t, .int .i64 r, .int .i64 b, .int .i64 x]] w (PutEnd w lim m2 n gr gA gF T R B X F k a t r b) := by
  have bA := (Below.refl lim w).alloc l3 (.cells #[.int .i64 t, .int .i64 r, .int .i64 b, .int .i64 (F a)] 71)
  have h1 := h.below (below_new w (.cells #[.int .i64 t, .int .i64 r, .int .i64 b, .int .i64 (F a)] 71))
  have c0 := h1.b0
  have c1 := h1.b1
  have c2 := h1.f ha
  have c3 := h1.arcs.frozen (k * 4)
  have c4 := h1.arcs.frozen (k * 4 + 1)
  have c5 := h1.arcs.frozen (k * 4 + 2)
  have c6 := h1.arcs.frozen (k * 4 + 3)
  have h0 := h.below (below_new w (.cells #[.int .i64 t, .int .i64 r, .int .i64 b, .int .i64 x] 71))
  have y0 := h0.b1
  have y1 := h0.f ha
  go_enter Try.func67, Try.ntmps67
  have e2 : (w.alloc (.cells #[.int .i64 t, .int .i64 r, .int .i64 b, .int .i64 (F a)] 71)).heap[w.heap.size]? = some (.cells #[.int .i64 t, .int .i64 r, .int .i64 b, .int .i64 (F a)] 71 (0, 0)) := heap_alloc_new w _
  have z0 := cell_of_row _ _ 0 _ _ _ e2
  have z1 := cell_of_row _ _ 1 _ _ _ e2
  have z2 := cell_of_row _ _ 2 _ _ _ e2
  have z3 := cell_of_row _ _ 3 _ _ _ e2
  have h2 := h1.setArc k t r b (F a)
  have d0 := h2.b1
  have d1 := h2.first.frozen a
  have d2 := h2.f ha
  have H2 := Lib.hid (h2.setFirst a k)
  have v0 := h1.t hk
  have v1 := h1.r hk
  have v2 := h1.b hk
  have v3 := h1.x hk
  clear e2 h h0 h2
  go_wp2_with fail
  go_region
  all_goals
    go_wp2_with fail
    refine bodyPost_ret (v := .tuple #[]) (by simp [results, Try.results67, go_sem]) rfl ?_
    refine ⟨rfl, ?_, ?_, ?_⟩
    · exact H2.out.drew
    · exact (((((bA.setCell (by exact l1) _).setCell (by exact l1) _).setCell (by exact l1) _).setCell (by exact l1) _).setCell (by exact l2) _).drew
    · exact Apart.drew (apart_set (apart_set (apart_set (apart_set (apart_set (apart_new w _ gA gF) (Or.inl rfl) _) (Or.inl rfl) _) (Or.inl rfl) _) (Or.inl rfl) _) (Or.inr rfl) _)
theorem put_at (lim m2 n gr gA gF : Nat) (T R B X F : Nat → Int) (k a : Nat) (I : Int) (t r b x : Int) (w : World) (h : ResB w m2 n gr gA gF T R B X F) (hI : (k : Int) = I) (hk : k < m2) (ha : a < n) (l1 : lim ≤ gA) (l2 : lim ≤ gF) (l3 : lim ≤ w.heap.size) :
    Calls Try.prog 67 #[.pointer (some ⟨gr, 0, none⟩), .int .i64 I, .int .i64 a, .agg #[.int .i64 t, .int .i64 r, .int .i64 b, .int .i64 x]] w (PutEnd w lim m2 n gr gA gF T R B X F k a t r b) := by
  subst hI
  exact put_any lim m2 n gr gA gF T R B X F k a t r b x w h hk ha l1 l2 l3
end Go.Proofs.Ytjdceafkcakbjaa
