/- The example of the chapter. -/
import Derived.Test.YtngpfondnampjaaDoorWWid
import Derived.Test.YtngpfondnampjaaDoorWLng
namespace Go.Proofs.YtngpfondnampjaaDoor
open Go.RowKit Go.Sort
def dL : List (Nat × Nat) := [(0, 1), (0, 2), (1, 3), (2, 3), (0, 3)]
def dT : Nat → Nat → Bool := fun i j => dL.contains (i, j)
set_option maxRecDepth 100000 in
set_option maxHeartbeats 4000000 in
theorem dia_any (w : World) : Calls Tryd.prog 33 #[] w fun e w' => ∃ A c R, e = .returned (.agg #[.slice A 4 c]) ∧ Rel w' A 4 R ∧ VRel 4 R ∧ (∀ i, i < 4 → ∀ j, j < 4 → mat R i j = dT i j) ∧ Below w.heap.size w w' := by
  have b1 := below_new w (.cells #[.slice none 0 0] 24)
  have r1 := relAt_new w none 0 0
  have z1 : (w.alloc (.cells #[.slice none 0 0] 24)).heap.size = w.heap.size + 1 := by simp
  have b2 := below_new (w.alloc (.cells #[.slice none 0 0] 24)) (.cells #[.int .i64 0, .int .i64 1, .int .i64 0, .int .i64 2, .int .i64 1, .int .i64 3, .int .i64 2, .int .i64 3, .int .i64 0, .int .i64 3] 78)
  have e2 : ((w.alloc (.cells #[.slice none 0 0] 24)).alloc (.cells #[.int .i64 0, .int .i64 1, .int .i64 0, .int .i64 2, .int .i64 1, .int .i64 3, .int .i64 2, .int .i64 3, .int .i64 0, .int .i64 3] 78)).heap[w.heap.size + 1]? = some (.cells #[.int .i64 0, .int .i64 1, .int .i64 0, .int .i64 2, .int .i64 1, .int .i64 3, .int .i64 2, .int .i64 3, .int .i64 0, .int .i64 3] 78 (0, 0)) := by
    have := heap_alloc_new (w.alloc (.cells #[.slice none 0 0] 24)) (.cells #[.int .i64 0, .int .i64 1, .int .i64 0, .int .i64 2, .int .i64 1, .int .i64 3, .int .i64 2, .int .i64 3, .int .i64 0, .int .i64 3] 78)
    rw [z1] at this; exact this
  have r2 := r1.below b2
  have B2 := below_next b1 b2
  clear b1 b2 r1 z1
  go_enter Tryd.func33, Tryd.ntmps33
  go_wp2_with fail
  generalize (w.alloc (.cells #[.slice none 0 0] 24)).alloc (.cells #[.int .i64 0, .int .i64 1, .int .i64 0, .int .i64 2, .int .i64 1, .int .i64 3, .int .i64 2, .int .i64 3, .int .i64 0, .int .i64 3] 78) = W at *
  have hPr : Prs W (some ⟨w.heap.size + 1, 0, none⟩) 5 (zpair dL) := fun _ => ⟨_, _, rfl, lt_of_block e2, fun k hk => by
    match k, hk with
    | 0, _ => exact ⟨cell_of_row _ _ 0 _ _ _ e2, cell_of_row _ _ 1 _ _ _ e2⟩
    | 1, _ => exact ⟨cell_of_row _ _ 2 _ _ _ e2, cell_of_row _ _ 3 _ _ _ e2⟩
    | 2, _ => exact ⟨cell_of_row _ _ 4 _ _ _ e2, cell_of_row _ _ 5 _ _ _ e2⟩
    | 3, _ => exact ⟨cell_of_row _ _ 6 _ _ _ e2, cell_of_row _ _ 7 _ _ _ e2⟩
    | 4, _ => exact ⟨cell_of_row _ _ 8 _ _ _ e2, cell_of_row _ _ 9 _ _ _ e2⟩⟩
  refine (make_prs 4 5 _ 5 dL W (by decide) rfl hPr (by decide) (by decide)).mono ?_; rintro e w3 ⟨A, c, R, rfl, hR, hFr, hV, hM, b3⟩
  have r3 := r2.below b3
  have B3 := below_next B2 b3
  have bx := below_new w3 (.cells #[.slice A 4 c] 24)
  have rx := relAt_new w3 A 4 c
  have r4 := r3.below bx
  have B4 := below_next B3 bx
  have HR4 := hR.below bx
  have HV := Lib.hid hV
  have HM := Lib.hid hM
  have hlt := r2.lt
  have HR5 := Lib.hid (HR4.far_new hFr (q := ⟨w.heap.size, 0, none⟩) hlt (.slice A 4 c))
  clear hPr e2 r2 B2 b3 r3 B3 hR hV hM HR4 hFr hlt
  go_upto_region 2 with fail
  generalize w3.heap.size = q at *
  generalize w3.alloc (.cells #[.slice A 4 c] 24) = w4 at *
  have c0 := rx.c0
  have d0 := r4.c0
  have f0 := r4.free 0
  have e5 := heap_setCell_same w4 w.heap.size 0 _ _ (.slice A 4 c) r4
  have d5 : (w4.setCell ⟨w.heap.size, 0, none⟩ (.slice A 4 c)).cell? ⟨w.heap.size, 0, none⟩ = some (.slice A 4 c) := cell_of_row _ _ 0 _ _ _ e5
  have B5 := B4.setCell (p := ⟨w.heap.size, 0, none⟩) (Nat.le_refl _) (.slice A 4 c)
  have HB5 := Lib.hid B5
  clear B5 B4 bx rx r4 e5
  go_wp2_with fail
  refine bodyPost_ret (v := .agg #[.slice A 4 c]) (by simp [results, Tryd.results33, go_sem, d5]) rfl ?_
  exact ⟨A, c, R, rfl, HR5.out, HV.out, HM.out, HB5.out⟩
end Go.Proofs.YtngpfondnampjaaDoor
