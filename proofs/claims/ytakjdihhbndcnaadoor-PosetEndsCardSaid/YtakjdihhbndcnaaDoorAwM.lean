/- The example of the chapter: its sets, its relation (mathematics, memory). -/
import Derived.Test.YtakjdihhbndcnaaDoorPDwn
import Derived.Test.YtakjdihhbndcnaaDoorPFew
import Derived.Deep.RegionHeld3
namespace Go.Proofs.YtakjdihhbndcnaaDoor
open Go.RowKit
theorem lk_new {X : World} {o : Obj} {B : Nat} (h : B = X.heap.size) : (X.alloc o).heap[B]? = some o := by subst h; exact heap_alloc_new X o
theorem lk_old {X : World} {o : Obj} {B : Nat} {r : Option Obj} (h : X.heap[B]? = r) (hb : B < X.heap.size) : (X.alloc o).heap[B]? = r := (Below.heap_alloc X o B hb).trans h
theorem lk_drew {X : World} {B : Nat} {r : Option Obj} (h : X.heap[B]? = r) : X.drew.heap[B]? = r := h
theorem lk_bel {X Y : World} {B : Nat} {r : Option Obj} (b : Below X.heap.size X Y) (h : X.heap[B]? = r) (hb : B < X.heap.size) : Y.heap[B]? = r := (b.block B hb).trans h
theorem ints_at {u : World} {B : Nat} {cs : Array Value} (m : Nat) (z : Nat → Int) (hu : u.heap[B]? = some (.cells cs 3 (0, 0))) (h : ∀ k, k < m → cs[k]? = some (.int .i64 (z k))) : Ints u (some ⟨B, 0, none⟩) m z := fun _ =>
  ⟨B, 0, rfl, lt_of_block hu, fun k hk => by rw [Nat.zero_add]; exact (cell_of_row _ _ _ _ _ _ hu).trans (h k hk)⟩
def LsOk (u : World) (l : List Nat) (e : Ending) (w' : World) : Prop :=
  ∃ g, e = .returned (.agg #[.int .i64 4, .slice (some ⟨g, 0, none⟩) 1 1]) ∧ u.heap.size ≤ g ∧ w'.rowIs g 59 1 (fun k => .int .u64 (setF l k : Nat)) ∧ Below u.heap.size u w'
theorem ls_of (l : List Nat) (hl : l.length ≤ 4) (h4 : ∀ x, x ∈ l → x < 4) (A : Option Addr) (u : World) (h : Ints u A l.length (gets l)) : Calls Tryd.prog 44 #[.slice A l.length l.length] u (LsOk u l) := by
  have hg : ∀ k, k < l.length → (((gets l k).toNat : Nat) : Int) = gets l k := fun k _ => by unfold gets; omega
  refine (lawset_any A l.length l.length (fun k => (gets l k).toNat) u (h.congr fun k hk => (hg k hk).symm) (by omega) (fun k hk => ?_)).mono fun e w' h => ?_
  · have : gets l k = ((l[k] : Nat) : Int) := by unfold gets; rw [List.getD_eq_getElem?_getD, List.getElem?_eq_getElem hk]; rfl
    have h2 := h4 _ (List.getElem_mem hk)
    omega
  · exact h
theorem ls12 (u : World) (B : Nat) (hu : u.heap[B]? = some (.cells #[.int .i64 1, .int .i64 2] 3 (0, 0))) : Calls Tryd.prog 44 #[.slice (some ⟨B, 0, none⟩) 2 2] u (LsOk u [1, 2]) :=
  ls_of [1, 2] (by decide) (by decide) _ u (ints_at 2 _ hu fun k hk => by match k, hk with | 0, _ => rfl | 1, _ => rfl)
theorem ls01 (u : World) (B : Nat) (hu : u.heap[B]? = some (.cells #[.int .i64 0, .int .i64 1] 3 (0, 0))) : Calls Tryd.prog 44 #[.slice (some ⟨B, 0, none⟩) 2 2] u (LsOk u [0, 1]) :=
  ls_of [0, 1] (by decide) (by decide) _ u (ints_at 2 _ hu fun k hk => by match k, hk with | 0, _ => rfl | 1, _ => rfl)
theorem ls2 (u : World) (B : Nat) (hu : u.heap[B]? = some (.cells #[.int .i64 2] 3 (0, 0))) : Calls Tryd.prog 44 #[.slice (some ⟨B, 0, none⟩) 1 1] u (LsOk u [2]) :=
  ls_of [2] (by decide) (by decide) _ u (ints_at 1 _ hu fun k hk => by match k, hk with | 0, _ => rfl)
theorem ls1 (u : World) (B : Nat) (hu : u.heap[B]? = some (.cells #[.int .i64 1] 3 (0, 0))) : Calls Tryd.prog 44 #[.slice (some ⟨B, 0, none⟩) 1 1] u (LsOk u [1]) :=
  ls_of [1] (by decide) (by decide) _ u (ints_at 1 _ hu fun k hk => by match k, hk with | 0, _ => rfl)
theorem ls0 (u : World) : Calls Tryd.prog 44 #[.slice none 0 0] u (LsOk u []) :=
  ls_of [] (by decide) (by decide) _ u (fun h => absurd h (Nat.lt_irrefl _))
/- a relation of four literal sets -/
def LL (l0 l1 l2 l3 : List Nat) (i : Nat) : List Nat := if i = 0 then l0 else if i = 1 then l1 else if i = 2 then l2 else l3
def RL (g0 g1 g2 g3 : Nat) (l0 l1 l2 l3 : List Nat) (i : Nat) : RowD :=
  ⟨4, some ⟨if i = 0 then g0 else if i = 1 then g1 else if i = 2 then g2 else g3, 0, none⟩, 1, 1, setF (LL l0 l1 l2 l3 i)⟩
def TL (l0 l1 l2 l3 : List Nat) (i j : Nat) : Bool := (LL l0 l1 l2 l3 i).contains j
theorem rl_mat (g0 g1 g2 g3 : Nat) (l0 l1 l2 l3 : List Nat) (i j : Nat) : mat (RL g0 g1 g2 g3 l0 l1 l2 l3) i j = TL l0 l1 l2 l3 i j :=
  bool_ext (by show bt (setF (LL l0 l1 l2 l3 i)) j = true ↔ _; rw [setF_bt]; unfold TL; rw [List.contains_iff_mem])
theorem rl_v (g0 g1 g2 g3 : Nat) (l0 l1 l2 l3 : List Nat) (h : ∀ i, i < 4 → ∀ x, x ∈ LL l0 l1 l2 l3 i → x < 4) : VRel 4 (RL g0 g1 g2 g3 l0 l1 l2 l3) :=
  ⟨by decide, fun k hk => ⟨rfl, setF_vld (n := 4) (by decide) (h k hk)⟩⟩
theorem rl_rel {u : World} {g0 g1 g2 g3 B : Nat} {l0 l1 l2 l3 : List Nat} (h0 : u.rowIs g0 59 1 (fun k => .int .u64 (setF l0 k : Nat))) (h1 : u.rowIs g1 59 1 (fun k => .int .u64 (setF l1 k : Nat))) (h2 : u.rowIs g2 59 1 (fun k => .int .u64 (setF l2 k : Nat))) (h3 : u.rowIs g3 59 1 (fun k => .int .u64 (setF l3 k : Nat)))
    (hu : u.heap[B]? = some (.cells #[.int .i64 4, .slice (some ⟨g0, 0, none⟩) 1 1, .int .i64 4, .slice (some ⟨g1, 0, none⟩) 1 1, .int .i64 4, .slice (some ⟨g2, 0, none⟩) 1 1, .int .i64 4, .slice (some ⟨g3, 0, none⟩) 1 1] 37 (0, 0))) :
    Rel u (some ⟨B, 0, none⟩) 4 (RL g0 g1 g2 g3 l0 l1 l2 l3) := fun _ =>
  ⟨B, 0, rfl, lt_of_block hu, fun k hk => by
    match k, hk with
    | 0, _ => exact ⟨cell_of_row _ _ 0 _ _ _ hu, cell_of_row _ _ 1 _ _ _ hu, row_wds h0 (setF_u64 _ _)⟩
    | 1, _ => exact ⟨cell_of_row _ _ 2 _ _ _ hu, cell_of_row _ _ 3 _ _ _ hu, row_wds h1 (setF_u64 _ _)⟩
    | 2, _ => exact ⟨cell_of_row _ _ 4 _ _ _ hu, cell_of_row _ _ 5 _ _ _ hu, row_wds h2 (setF_u64 _ _)⟩
    | 3, _ => exact ⟨cell_of_row _ _ 6 _ _ _ hu, cell_of_row _ _ 7 _ _ _ hu, row_wds h3 (setF_u64 _ _)⟩⟩
/- the example -/
def exT : Nat → Nat → Bool := TL [1, 2] [2] [] [2]
def exC : Nat → Nat → Bool := TL [1] [2] [] [2]
theorem ex_in : ∀ i, i < 4 → ∀ x, x ∈ LL [1, 2] [2] [] [2] i → x < 4 := by decide
theorem exC_in : ∀ i, i < 4 → ∀ x, x ∈ LL [1] [2] [] [2] i → x < 4 := by decide
theorem ex_pok : ∀ i, i < 4 → (exT i i = false ∧ ∀ j, j < 4 → exT i j = true → ∀ k, k < 4 → exT j k = true → exT i k = true) := by decide +kernel
theorem ex_red : ∀ i, i < 4 → ∀ j, j < 4 → red 4 exT i j = exC i j := by decide +kernel
theorem red_congr {n : Nat} {T S : Nat → Nat → Bool} (h : ∀ i, i < n → ∀ j, j < n → T i j = S i j) : ∀ i, i < n → ∀ j, j < n → red n T i j = red n S i j := fun i hi j hj => by
  unfold red
  rw [h i hi j hj, comp_congr h (clo_congr h) i hi j hj]
theorem rowL_congr {n i : Nat} {T S : Nat → Nat → Bool} (h : ∀ j, j < n → T i j = S i j) : rowL T n i = rowL S n i := by
  unfold rowL
  exact List.filter_congr fun j hj => h j (List.mem_range.1 hj)
theorem lvK_congr {n : Nat} {T S : Nat → Nat → Bool} (h : ∀ i, i < n → ∀ j, j < n → T i j = S i j) (o : List Nat) (ho : ∀ K, K < o.length → o.getD K 0 < n) : ∀ K, K ≤ o.length → lvK T n o K = lvK S n o K
  | 0, _ => rfl
  | K + 1, hK => by
    have ih := lvK_congr h o ho K (by omega)
    have hr : rowL T n (o.getD K 0) = rowL S n (o.getD K 0) := rowL_congr (h _ (ho K (by omega)))
    show lvP (lvK T n o K) (lvK T n o K (o.getD K 0) + 1) (rowL T n (o.getD K 0)) (rowL T n (o.getD K 0)).length = lvP (lvK S n o K) (lvK S n o K (o.getD K 0) + 1) (rowL S n (o.getD K 0)) (rowL S n (o.getD K 0)).length
    rw [ih, hr]
theorem ex_order : orderOf 4 exT = some [0, 1, 3, 2] := by decide +kernel
theorem ex_lev : ∀ j, j < 4 → lvK exT 4 [0, 1, 3, 2] 4 j = gets [0, 1, 2, 0] j := by decide +kernel
theorem dwn_congr {n : Nat} {T S : Nat → Nat → Bool} {s t : Nat → Nat} (h : ∀ i, i < n → ∀ j, j < n → T i j = S i j) (hs : ∀ j, j < n → bt s j = bt t j) : ∀ i, i < n → dwn n T s i = dwn n S t i := fun i hi => by
  unfold dwn
  rw [hs i hi]
  congr 1
  refine bool_ext ?_
  rw [List.any_eq_true, List.any_eq_true]
  constructor
  · rintro ⟨k, hk, hb⟩
    have := List.mem_range.1 hk
    exact ⟨k, hk, by rw [← h i hi k this, ← hs k this]; exact hb⟩
  · rintro ⟨k, hk, hb⟩
    have := List.mem_range.1 hk
    exact ⟨k, hk, by rw [h i hi k this, hs k this]; exact hb⟩
end Go.Proofs.YtakjdihhbndcnaaDoor
