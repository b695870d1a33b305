/- The examples of the chapter, walked. -/
import Derived.Test.YtjdceafkcakbjaaFAw
namespace Go.Proofs.Ytjdceafkcakbjaa
open Go.RowKit
theorem prs_lit (w : World) (cs : Array Value) (m : Nat) (z : Nat → Int × Int) (h : ∀ k, k < m → cs[k * 2]? = some (.int .i64 (z k).1) ∧ cs[k * 2 + 1]? = some (.int .i64 (z k).2)) :
    Prs (w.alloc (.cells cs 56)) (some ⟨w.heap.size, 0, none⟩) m z := fun _ =>
  ⟨w.heap.size, 0, rfl, by simp, fun k hk => ⟨by rw [Nat.zero_add]; exact (cell_of_row _ _ _ _ _ _ (heap_alloc_new w _)).trans (h k hk).1, by rw [Nat.zero_add]; exact (cell_of_row _ _ _ _ _ _ (heap_alloc_new w _)).trans (h k hk).2⟩⟩
theorem ints_lit (w : World) (cs : Array Value) (m : Nat) (z : Nat → Int) (h : ∀ k, k < m → cs[k]? = some (.int .i64 (z k))) :
    Ints (w.alloc (.cells cs 3)) (some ⟨w.heap.size, 0, none⟩) m z := fun _ =>
  ⟨w.heap.size, 0, rfl, by simp, fun k hk => by rw [Nat.zero_add]; exact (cell_of_row _ _ _ _ _ _ (heap_alloc_new w _)).trans (h k hk)⟩
theorem words_lit (w : World) (x : Nat) (hx : x < 18446744073709551616) : Wds (w.alloc (.cells #[.int .u64 (x : Nat)] 61)) (some ⟨w.heap.size, 0, none⟩) 1 (fun _ => x) :=
  ⟨fun _ _ => hx, fun _ => ⟨w.heap.size, 0, rfl, by simp, fun k hk => by
    obtain rfl : k = 0 := by omega
    exact cell_of_row _ _ 0 _ _ _ (heap_alloc_new w _)⟩⟩
def exL : Nat → Int := fun k => [2, 2, 1].getD k 0
def exE : Array Value := #[.int .i64 0, .int .i64 1, .int .i64 3, .int .i64 1, .int .i64 2, .int .i64 2, .int .i64 0, .int .i64 2, .int .i64 1]
theorem exE_edges (w : World) : Edges (w.alloc (.cells #[.int .i64 0, .int .i64 1, .int .i64 3, .int .i64 1, .int .i64 2, .int .i64 2, .int .i64 0, .int .i64 2, .int .i64 1] 50)) (some ⟨w.heap.size, 0, none⟩) 3 (eE exN) := fun _ =>
  ⟨w.heap.size, 0, rfl, by simp, fun k hk => by
    have hc := fun j => cell_of_row _ _ j _ _ _ (heap_alloc_new w (.cells #[.int .i64 0, .int .i64 1, .int .i64 3, .int .i64 1, .int .i64 2, .int .i64 2, .int .i64 0, .int .i64 2, .int .i64 1] 50))
    match k, hk with
    | 0, _ => exact ⟨hc 0, hc 1, hc 2⟩
    | 1, _ => exact ⟨hc 3, hc 4, hc 5⟩
    | 2, _ => exact ⟨hc 6, hc 7, hc 8⟩⟩
set_option maxRecDepth 100000 in
set_option maxHeartbeats 8000000 in
theorem awake_any (w : World) : Calls Try.prog 10 #[] w fun e w' => e = .returned (.bool true) ∧ Below w.heap.size w w' := by
  have hE := exE_edges w
  have b0 := below_new w (.cells #[.int .i64 0, .int .i64 1, .int .i64 3, .int .i64 1, .int .i64 2, .int .i64 2, .int .i64 0, .int .i64 2, .int .i64 1] 50)
  go_enter Try.func10, Try.ntmps10
  go_wp2_with fail
  have X0 := hE.below (below_new (w.alloc (.cells #[.int .i64 0, .int .i64 1, .int .i64 3, .int .i64 1, .int .i64 2, .int .i64 2, .int .i64 0, .int .i64 2, .int .i64 1] 50)) (.cells #[.int .i64 3, .slice (some ⟨w.heap.size, 0, none⟩) 3 3] 24))
  have n0 := netAt_new (w.alloc (.cells #[.int .i64 0, .int .i64 1, .int .i64 3, .int .i64 1, .int .i64 2, .int .i64 2, .int .i64 0, .int .i64 2, .int .i64 1] 50)) 3 (some ⟨w.heap.size, 0, none⟩) 3 3
  rw [show (w.alloc (.cells #[.int .i64 0, .int .i64 1, .int .i64 3, .int .i64 1, .int .i64 2, .int .i64 2, .int .i64 0, .int .i64 2, .int .i64 1] 50)).heap.size = w.heap.size + 1 by simp] at n0
  have B0 := b0.alloc b0.size (.cells #[.int .i64 3, .slice (some ⟨w.heap.size, 0, none⟩) 3 3] 24)
  clear hE b0
  generalize hW : (w.alloc (.cells #[.int .i64 0, .int .i64 1, .int .i64 3, .int .i64 1, .int .i64 2, .int .i64 2, .int .i64 0, .int .i64 2, .int .i64 1] 50)).alloc (.cells #[.int .i64 3, .slice (some ⟨w.heap.size, 0, none⟩) 3 3] 24) = W at *
  clear hW
  have hmx : Hid (Calls Try.prog 16 #[.agg #[.int .i64 3, .slice (some ⟨w.heap.size, 0, none⟩) 3 3], .int .i64 0, .int .i64 2] W (MaxOk W (netOf 3 3 (eE exN)) 0 2)) := max_ok 3 3 3 0 2 _ _ W X0 exN_ok (by decide) (by decide) (by decide)
  refine hmx.out.mono ?_; rintro e w1 ⟨gL, R, rfl, hrL, hdone, _, b1⟩
  obtain ⟨e1, e2, e3, e4, _⟩ := ex_done hdone
  have hL1 : Ints w1 (some ⟨gL, 0, none⟩) 3 exL := (Row.ints hrL).congr (fun k hk => by
    have hk3 : k < 3 := hk
    match k, hk3 with
    | 0, _ => exact e2
    | 1, _ => exact e3
    | 2, _ => exact e4)
  rw [e1]
  have n1 := n0.below b1
  have X1 := X0.below b1
  have B1 := below_next B0 b1
  clear hmx hrL hdone e1 e2 e3 e4 b1 X0 n0 B0
  have c0 := n1.c0
  have c1 := n1.c1
  have hct : Hid (Calls Try.prog 21 #[.agg #[.int .i64 3, .slice (some ⟨w.heap.size, 0, none⟩) 3 3], .int .i64 0, .int .i64 2] w1 (CutOk w1 3 (netOf 3 3 (eE exN)) 0 2)) := cut_ok 3 3 3 0 2 _ _ w1 X1 exN_ok (by decide) (by decide) (by decide)
  go_wp2_with fail
  refine hct.out.mono ?_; rintro e w2 ⟨gW, l, R2, rfl, hrW, hd2, hl, _, b2⟩
  obtain ⟨f1, f2⟩ := ex_cut hd2 hl
  rw [f2]
  have hW2 : Wds w2 (some ⟨gW, 0, none⟩) 1 (fun _ => 3) := (row_wds hrW (setF_u64 l _)).congr (fun k hk => by
    have hk1 : k < 1 := hk
    obtain rfl : k = 0 := by omega
    exact f1)
  have bS := below_new w2 (.cells #[.int .i64 3, .slice (some ⟨gW, 0, none⟩) 1 1] 28)
  have s2 := setAt_new w2 3 (some ⟨gW, 0, none⟩) 1 1
  have hL2 := (hL1.below b2).below bS
  have hW3 := hW2.below bS
  have B2 := below_next (below_next B1 b2) bS
  clear hct hrW hd2 hl f1 f2 b2 bS hW2 hL1 n1 X1 B1 c0 c1
  go_wp2_with fail
  have hs2 : (w2.alloc (.cells #[.int .i64 3, .slice (some ⟨gW, 0, none⟩) 1 1] 28)).heap.size = w2.heap.size + 1 := by simp
  generalize hV : w2.alloc (.cells #[.int .i64 3, .slice (some ⟨gW, 0, none⟩) 1 1] 28) = V at *
  clear hV
  generalize w2.heap.size = p2 at *
  have hz := ints_lit V #[.int .i64 5, .int .i64 (-3), .int .i64 (-4)] 3 exZ (fun k hk => by
    match k, hk with
    | 0, _ => rfl
    | 1, _ => rfl
    | 2, _ => rfl)
  have bz := below_new V (.cells #[.int .i64 5, .int .i64 (-3), .int .i64 (-4)] 3)
  have hy := prs_lit (V.alloc (.cells #[.int .i64 5, .int .i64 (-3), .int .i64 (-4)] 3)) #[.int .i64 0, .int .i64 1] 1 exY (fun k hk => by
    match k, hk with
    | 0, _ => exact ⟨rfl, rfl⟩)
  have by_ := below_new (V.alloc (.cells #[.int .i64 5, .int .i64 (-3), .int .i64 (-4)] 3)) (.cells #[.int .i64 0, .int .i64 1] 56)
  rw [show (V.alloc (.cells #[.int .i64 5, .int .i64 (-3), .int .i64 (-4)] 3)).heap.size = V.heap.size + 1 by simp] at hy
  rw [hs2] at hz hy
  have hcl := Lib.hid (clo_ok 3 1 3 1 _ _ exZ exY _ (hz.below by_) hy ex_args)
  have bzy := below_next bz by_
  refine hcl.out.mono ?_; rintro e w3 ⟨gC, lc, rfl, hrC, hlc, hbest, _, b3⟩
  obtain ⟨f1, f2⟩ := ex_best hlc hbest
  rw [f2]
  have hC3 : Wds w3 (some ⟨gC, 0, none⟩) 1 (fun _ => 3) := (row_wds hrC (setF_u64 lc _)).congr (fun k hk => by
    have hk1 : k < 1 := hk
    obtain rfl : k = 0 := by omega
    exact f1)
  have bv3 := below_next bzy b3
  have bS := below_new w3 (.cells #[.int .i64 3, .slice (some ⟨gC, 0, none⟩) 1 1] 28)
  have s3 := setAt_new w3 3 (some ⟨gC, 0, none⟩) 1 1
  have s2' := (s2.below bv3).below bS
  have hL3 := (hL2.below bv3).below bS
  have hW4 := (hW3.below bv3).below bS
  have hC4 := hC3.below bS
  have B3 := below_next (below_next B2 bv3) bS
  clear hcl hrC hlc hbest f1 f2 b3 bS hC3 hL2 hW3 B2 bzy bv3 hz hy bz by_ s2
  go_wp2_with fail
  have hs3 : (w3.alloc (.cells #[.int .i64 3, .slice (some ⟨gC, 0, none⟩) 1 1] 28)).heap.size = w3.heap.size + 1 := by simp
  generalize hV : w3.alloc (.cells #[.int .i64 3, .slice (some ⟨gC, 0, none⟩) 1 1] 28) = V3 at *
  clear hV
  generalize w3.heap.size = p3 at *
  have hl := ints_lit V3 #[.int .i64 2, .int .i64 2, .int .i64 1] 3 exL (fun k hk => by
    match k, hk with
    | 0, _ => rfl
    | 1, _ => rfl
    | 2, _ => rfl)
  rw [hs3] at hl
  have bl := below_new V3 (.cells #[.int .i64 2, .int .i64 2, .int .i64 1] 3)
  have heq := Lib.hid (equal_ints (some ⟨gL, 0, none⟩) (some ⟨p3 + 1, 0, none⟩) 3 3 3 exL _ (hL3.below bl) hl (by decide))
  refine heq.out.mono ?_; rintro e w4 ⟨rfl, b4⟩
  have bb := below_next bl b4
  have s4 := s2'.below bb
  have t4 := s3.below bb
  have hW5 := hW4.below bb
  have hC5 := hC4.below bb
  have B4 := below_next B3 bb
  clear heq hl bl b4 bb s2' s3 hW4 hC4 B3 hs3 hL3
  have c0 := s4.c0
  have c1 := s4.c1
  have hwl := words_lit w4 3 (by decide)
  have bl := below_new w4 (.cells #[.int .u64 3] 61)
  have heq := Lib.hid (equal_words (some ⟨gW, 0, none⟩) (some ⟨w4.heap.size, 0, none⟩) 1 1 1 (fun _ => 3) _ (hW5.below bl) hwl (by decide))
  go_wp2_with fail
  refine heq.out.mono ?_; rintro e w5 ⟨rfl, b5⟩
  have bb := below_next bl b5
  have t5 := t4.below bb
  have hC6 := hC5.below bb
  have B5 := below_next B4 bb
  clear heq hwl bl b5 bb s4 t4 hW5 hC5 B4 c0 c1
  have c0 := t5.c0
  have c1 := t5.c1
  have hwl := words_lit w5 3 (by decide)
  have bl := below_new w5 (.cells #[.int .u64 3] 61)
  have heq := Lib.hid (equal_words (some ⟨gC, 0, none⟩) (some ⟨w5.heap.size, 0, none⟩) 1 1 1 (fun _ => 3) _ (hC6.below bl) hwl (by decide))
  go_wp2_with fail
  refine heq.out.mono ?_; rintro e w6 ⟨rfl, b6⟩
  have B6 := below_next B5 (below_next bl b6)
  clear heq hwl bl b6 t5 hC6 B5 c0 c1
  go_wp2_with fail
  go_ret
  exact ⟨rfl, B6⟩
end Go.Proofs.Ytjdceafkcakbjaa
