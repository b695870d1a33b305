/- The examples of the chapter hold. -/
import Derived.Test.YtijghglppgihmaaDoorBitG
import Derived.Test.YtijghglppgihmaaDoorBitB
import Derived.Test.YtijghglppgihmaaDoorBitC
import Derived.Test.YtijghglppgihmaaDoorRefG
import Derived.Test.YtijghglppgihmaaDoorLaw0
import Derived.Test.YtijghglppgihmaaDoorShelf
namespace Go.Proofs.YtijghglppgihmaaDoor
open Go.RowKit
/- slices.Equal at two lists of numbers -/
theorem equal_same (A B : Option Addr) (n c d : Nat) (z : Nat → Int) (w : World) (ha : Ints w A n z) (hb : Ints w B n z) (hn : n ≤ 1000000) :
    Calls Tryd.prog 22 #[.slice A n c, .slice B n d] w fun e w' => e = .returned (.bool true) ∧ Below w.heap.size w w' := by
  by_cases h0 : n = 0
  · subst h0
    exact (Tryd.slices_Equal_int_empty A B c 0 d w (by omega)).mono fun e w' ⟨he, hw⟩ => ⟨he, by rw [hw]; exact Below.refl _ _⟩
  · obtain ⟨b1, o1, rfl, _, h1⟩ := ha (by omega)
    obtain ⟨b2, o2, rfl, _, h2⟩ := hb (by omega)
    have hz : ∀ j, j < n → ((List.range n).map z).getD j 0 = z j := fun j hj => by simp [List.getD_eq_getElem?_getD, hj]
    refine (Tryd.slices_Equal_int b1 o1 n c b2 o2 n d ((List.range n).map z) ((List.range n).map z) w (by simp) (by simp) (by omega) (by omega) (fun j hj => ?_) (fun j hj => ?_)).mono fun e w' ⟨he, q, hw⟩ => ⟨by rw [he]; simp, by rw [hw]; exact below_drewN (Below.refl _ _) _⟩
    · rw [hz j (by simpa using hj)]; exact h1 j (by simpa using hj)
    · rw [hz j (by simpa using hj)]; exact h2 j (by simpa using hj)
def exA : Nat → Nat := ow (fun k => ([65, 3].getD k 0 : Int).toNat) 2
def exB : Nat → Nat := ow (fun k => ([4, 5].getD k 0 : Int).toNat) 2
theorem exA_vld : Vld 70 2 exA := by
  refine ⟨by decide, by decide, by decide, fun i h1 h2 => ?_⟩
  have : ∀ i, i < 128 → 70 ≤ i → bt exA i = false := by decide +kernel
  exact this i h2 h1
theorem exB_vld : Vld 70 2 exB := by
  refine ⟨by decide, by decide, by decide, fun i h1 h2 => ?_⟩
  have : ∀ i, i < 128 → 70 ≤ i → bt exB i = false := by decide +kernel
  exact this i h2 h1
theorem exA_mem : mem exA (64 * 2) = [3, 65] := by decide +kernel
theorem ex_cmp : CmpW exA exB 2 (-1) := by
  refine Or.inr (Or.inr ⟨by decide +kernel, 0, by decide, fun k hk => by omega, Or.inr ⟨by decide, by decide +kernel, by decide +kernel⟩⟩)
theorem ints_two (w : World) (a b : Int) : Ints (w.alloc (.cells #[.int .i64 a, .int .i64 b] 3)) (some ⟨w.heap.size, 0, none⟩) 2 (fun k => [a, b].getD k 0) := by
  intro _
  refine ⟨w.heap.size, 0, rfl, by simp, fun k hk => ?_⟩
  have h := cell_of_row (w.alloc (.cells #[.int .i64 a, .int .i64 b] 3)) w.heap.size (0 + k) _ _ _ (heap_alloc_new w _)
  rw [h]
  match k, hk with
  | 0, _ => rfl
  | 1, _ => rfl
theorem of_two (a b : Int) (w w0 : World) (hw : w = w0.alloc (.cells #[.int .i64 a, .int .i64 b] 3)) (g : Nat) (hg : g = w0.heap.size) (h : 0 ≤ a ∧ a < 70 ∧ 0 ≤ b ∧ b < 70) :
    Calls Tryd.prog 13 #[.int .i64 70, .slice (some ⟨g, 0, none⟩) 2 2] w (SetOk w 70 2 (ow (fun k => ([a, b].getD k 0).toNat) 2)) := by
  subst hw hg
  refine (of_any 70 _ 2 2 (fun k => [a, b].getD k 0) 2 true _ (by decide) (ints_two w0 a b) (by decide) (Nat.le_refl _) (fun k hk => ?_) (Or.inl ⟨rfl, rfl⟩)).mono fun e w' hr => ?_
  · match k, hk with
    | 0, _ => exact ⟨h.1, h.2.1⟩
    | 1, _ => exact ⟨h.2.2.1, h.2.2.2⟩
  · rcases hr with ⟨_, hr⟩ | ⟨h2, _⟩
    · exact hr
    · cases h2
theorem row_below {w w' : World} {g : Nat} {t : TypeId} {n : Nat} {f : Nat → Value} (h : w.rowIs g t n f) (hb : Below w.heap.size w w') : w'.rowIs g t n f := h.of_block (hb.block g h.lt)
theorem words_two (w : World) (a b : Nat) (h : a < 18446744073709551616 ∧ b < 18446744073709551616) : Wds (w.alloc (.cells #[.int .u64 (a : Int), .int .u64 (b : Int)] 54)) (some ⟨w.heap.size, 0, none⟩) 2 (fun k => [a, b].getD k 0) := by
  refine ⟨fun k hk => ?_, fun _ => ⟨w.heap.size, 0, rfl, by simp, fun k hk => ?_⟩⟩
  · match k, hk with
    | 0, _ => exact h.1
    | 1, _ => exact h.2
  · have h := cell_of_row (w.alloc (.cells #[.int .u64 (a : Int), .int .u64 (b : Int)] 54)) w.heap.size (0 + k) _ _ _ (heap_alloc_new w _)
    rw [h]
    match k, hk with
    | 0, _ => rfl
    | 1, _ => rfl
theorem exA_words : ∀ k, k < 2 → exA k = [8, 2].getD k 0 := by decide +kernel
theorem exA_gets : ∀ k, k < 2 → gets [3, 65] k = [(3 : Int), 65].getD k 0 := by decide +kernel
set_option maxRecDepth 100000 in
set_option maxHeartbeats 4000000 in
theorem awake_any (w : World) (hT : Tab w) : Calls Tryd.prog 11 #[] w fun e w' => e = .returned (.bool true) ∧ Below w.heap.size w w' := by
  go_enter Tryd.func11, Tryd.ntmps11
  go_wp2_with fail
  refine (of_two 65 3 _ w rfl _ rfl (by decide)).mono ?_; rintro e w1 ⟨g1, rfl, hg1, hrow1, b1⟩
  have sa1 := setAt_new w1 70 (some ⟨g1, 0, none⟩) 2 2
  have bb1 := b1.mono (B' := w.heap.size) (by simp)
  have B1 : Below w.heap.size w (w1.alloc (.cells #[.int .i64 70, .slice (some ⟨g1, 0, none⟩) 2 2] 24)) := (((Below.refl w.heap.size w).alloc (Nat.le_refl _) _).trans bb1).alloc (by have := b1.size; simp at this; omega) _
  clear b1 bb1
  go_wp2_with fail
  refine (of_two 4 5 _ (w1.alloc (.cells #[.int .i64 70, .slice (some ⟨g1, 0, none⟩) 2 2] 24)) rfl _ (by simp) (by decide)).mono ?_; rintro e w2 ⟨g2, rfl, hg2, hrow2, b2⟩
  have b2' : Below (w1.alloc (.cells #[.int .i64 70, .slice (some ⟨g1, 0, none⟩) 2 2] 24)).heap.size (w1.alloc (.cells #[.int .i64 70, .slice (some ⟨g1, 0, none⟩) 2 2] 24)) w2 := ((Below.refl _ _).alloc (Nat.le_refl _) _).trans (b2.mono (by simp))
  have sa2 := sa1.below b2'
  have hr1 := row_below (hrow1.alloc (.cells #[.int .i64 70, .slice (some ⟨g1, 0, none⟩) 2 2] 24)) b2'
  have B2 := below_next B1 b2'
  clear sa1 b2 b2' B1 hrow1
  have sa3 := sa2.alloc (.cells #[.int .i64 70, .slice (some ⟨g2, 0, none⟩) 2 2] 24)
  have sb3 := setAt_new w2 70 (some ⟨g2, 0, none⟩) 2 2
  have hr1' := hr1.alloc (.cells #[.int .i64 70, .slice (some ⟨g2, 0, none⟩) 2 2] 24)
  have hr2' := hrow2.alloc (.cells #[.int .i64 70, .slice (some ⟨g2, 0, none⟩) 2 2] 24)
  have B3 := B2.alloc B2.size (.cells #[.int .i64 70, .slice (some ⟨g2, 0, none⟩) 2 2] 24)
  have l1 := sa2.lt
  have x0 := sa2.c0
  have x1 := sa2.c1
  clear sa2 hr1 hrow2 B2
  go_wp2_with fail
  clear x0 x1 l1
  refine (compare_any 70 _ _ 2 2 2 exA exB (-1) _ (row_wds hr1' (ow_u64 _ _ _)) (row_wds hr2' (ow_u64 _ _ _)) exA_vld exB_vld ex_cmp).mono ?_; rintro e w4 ⟨rfl, b4⟩
  have sa4 := sa3.below b4
  have hr4 := row_below hr1' b4
  have B4 := below_next B3 b4
  clear sa3 sb3 hr1' hr2' B3 b4
  have x0 := sa4.c0
  have x1 := sa4.c1
  go_wp2_with fail
  clear x0 x1
  have hmem := members_any 70 _ 2 2 exA _ (row_wds hr4 (ow_u64 _ _ _)) exA_vld (hT.below B4)
  rw [exA_mem] at hmem
  refine hmem.mono ?_; rintro e w5 ⟨v, rfl, hown, b5⟩
  obtain ⟨A, c, rfl, hi, hl5⟩ := own_ints hown
  have hi2 : Ints w5 A 2 (fun k => [(3 : Int), 65].getD k 0) := hi.congr exA_gets
  clear hi hl5
  have sa5 := sa4.below b5
  have hr5 := row_below hr4 b5
  have B5 := below_next B4 b5
  clear sa4 hr4 B4 b5 hown
  have x0 := sa5.c0
  have x1 := sa5.c1
  go_wp2_with fail
  clear x0 x1
  have hr6 := hr5.alloc (.cells #[.int .u64 ((8 : Nat) : Int), .int .u64 ((2 : Nat) : Int)] 54)
  have hw6 := words_two w5 8 2 (by decide)
  have hi6 := hi2.below ((Below.refl _ _).alloc (Nat.le_refl _) (.cells #[.int .u64 ((8 : Nat) : Int), .int .u64 ((2 : Nat) : Int)] 54))
  have B6 := B5.alloc B5.size (.cells #[.int .u64 ((8 : Nat) : Int), .int .u64 ((2 : Nat) : Int)] 54)
  refine (refSame_any 70 _ _ 2 2 2 exA (fun k => [8, 2].getD k 0) 2 true _ (row_wds hr6 (ow_u64 _ _ _)) hw6 (by decide) (Nat.le_refl _) exA_words (Or.inl ⟨rfl, rfl⟩)).mono ?_; rintro e w7 ⟨rfl, b7⟩
  have B7 := below_next B6 b7
  have hi7 := hi6.below b7
  clear hr5 hr6 hw6 hi6 B6 b7 hi2 B5
  go_wp2_with fail
  have hi8 := hi7.below ((Below.refl _ _).alloc (Nat.le_refl _) (.cells #[.int .i64 3, .int .i64 65] 3))
  have B8 := B7.alloc B7.size (.cells #[.int .i64 3, .int .i64 65] 3)
  refine (equal_same _ _ 2 _ _ (fun k => [(3 : Int), 65].getD k 0) _ hi8 (ints_two w7 3 65) (by decide)).mono ?_; rintro e w9 ⟨rfl, b9⟩
  go_wp2_with fail
  go_ret
  exact ⟨by simp, below_next B8 b9⟩
end Go.Proofs.YtijghglppgihmaaDoor
