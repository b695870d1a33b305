/- The example of the chapter holds. -/
import Derived.Test.YtngpfondnampjaaDoorWDia
import Derived.Test.YtngpfondnampjaaDoorWChk
import Derived.Test.YtngpfondnampjaaDoorRAnt
namespace Go.Proofs.YtngpfondnampjaaDoor
open Go.RowKit Go.Sort
theorem ints_at {u : World} {B : Nat} {cs : Array Value} (m : Nat) (z : Nat → Int) (hu : u.heap[B]? = some (.cells cs 3 (0, 0))) (h : ∀ k, k < m → cs[k]? = some (.int .i64 (z k))) : Ints u (some ⟨B, 0, none⟩) m z := fun _ =>
  ⟨B, 0, rfl, lt_of_block hu, fun k hk => by rw [Nat.zero_add]; exact (cell_of_row _ _ _ _ _ _ hu).trans (h k hk)⟩
theorem rowL_congr7 {n i : Nat} {T S : Nat → Nat → Bool} (h : ∀ j, j < n → T i j = S i j) : rowL T n i = rowL S n i := List.filter_congr fun j hj => h j (List.mem_range.1 hj)
theorem hf_congr {n : Nat} {T S : Nat → Nat → Bool} (h : ∀ i, i < n → ∀ j, j < n → T i j = S i j) : ∀ f i, i < n → hf n T f i = hf n S f i
  | 0, _, _ => rfl
  | f + 1, i, hi => by
    show hmax _ (rowL T n i) + 1 = hmax _ (rowL S n i) + 1
    rw [rowL_congr7 (h i hi), hmax_congr (g := hf n T f) (g' := hf n S f) fun j hj => hf_congr h f j (in_rowL.1 hj).1]
theorem ht_congr {n : Nat} {T S : Nat → Nat → Bool} (h : ∀ i, i < n → ∀ j, j < n → T i j = S i j) {i : Nat} (hi : i < n) : ht n T i = ht n S i := by
  unfold ht
  rw [hf_congr h _ i hi, rowL_congr7 (h i hi)]
theorem hgt_congr {n : Nat} {T S : Nat → Nat → Bool} (h : ∀ i, i < n → ∀ j, j < n → T i j = S i j) : hgt n T = hgt n S := hmax_congr fun _ hj => ht_congr h (List.mem_range.1 hj)
theorem mL_congr {n : Nat} {T S : Nat → Nat → Bool} (h : ∀ i, i < n → ∀ j, j < n → T i j = S i j) : mL n T = mL n S := by unfold mL; rw [pairsL_congr n h]
theorem d_pok : ∀ i, i < 4 → (dT i i = false ∧ ∀ j, j < 4 → dT i j = true → ∀ k, k < 4 → dT j k = true → dT i k = true) := by decide +kernel
theorem d_len : (pairsL dT 4 4).length = 5 := by decide +kernel
theorem d_mL : (mL 4 dT).length = 2 := by decide +kernel
theorem d_hgt : hgt 4 dT = 3 := by decide +kernel
def s6 : Nat → Nat := fun _ => 6
theorem s6_vld : Vld (4 : Nat) 1 s6 := ⟨by decide, by decide, rfl, fun i hi hj => by
  have : ∀ i, i < 64 → 4 ≤ i → bt s6 i = false := by decide
  exact this i (by omega) (by simpa using hi)⟩
theorem d_bad : ∀ i, i < 4 → ∀ j, j < 4 → bad2 dT s6 i j = false := by decide +kernel
structure DiaR (w : World) (A : Option Addr) (R : Nat → RowD) : Prop where
  r : Rel w A 4 R
  m : ∀ i, i < 4 → ∀ j, j < 4 → mat R i j = dT i j
  p : POrd 4 R
theorem dia_r {w : World} {A : Option Addr} {R : Nat → RowD} (h : Rel w A 4 R) (hV : VRel 4 R) (hM : ∀ i, i < 4 → ∀ j, j < 4 → mat R i j = dT i j) : DiaR w A R := ⟨h, hM, hV, pok_congr hM d_pok⟩
theorem dia_width {w : World} {A : Option Addr} {c : Nat} {R : Nat → RowD} (h : DiaR w A R) (hT : Tab w) : Calls Tryd.prog 20 #[.agg #[.slice A 4 c]] w fun e w' => e = .returned (.tuple #[.int .i64 2, .int .i64 0]) ∧ Below w.heap.size w w' :=
  (width_any A 4 c R w h.r (by decide) hT).mono fun e w' he => by
    rcases he.1 with ⟨_, _, h1⟩ | ⟨_, h1, _⟩ | ⟨h1, _⟩
    · rw [mL_congr h.m, d_mL] at h1; exact ⟨h1, he.2⟩
    · rw [pairsL_congr 4 h.m, d_len] at h1; omega
    · exact absurd h.p h1
theorem dia_height {w : World} {A : Option Addr} {c : Nat} {R : Nat → RowD} (h : DiaR w A R) (hT : Tab w) : Calls Tryd.prog 21 #[.agg #[.slice A 4 c]] w fun e w' => e = .returned (.tuple #[.int .i64 3, .int .i64 0]) ∧ Below w.heap.size w w' :=
  (heightF_any A 4 c R w h.r (by decide) hT).mono fun e w' he => by
    rcases he.1 with ⟨_, _, h1⟩ | ⟨_, h1, _⟩ | ⟨h1, _⟩
    · rw [hgt_congr h.m, d_hgt] at h1; exact ⟨h1, he.2⟩
    · rw [pairsL_congr 4 h.m, d_len] at h1; omega
    · exact absurd h.p h1
def z013 : Nat → Int := fun k => if k = 0 then 0 else if k = 1 then 1 else 3
def z12 : Nat → Int := fun k => if k = 0 then 1 else 2
theorem dia_chain {w : World} {A : Option Addr} {c B : Nat} {R : Nat → RowD} (h : DiaR w A R) (hT : Tab w) (hB : w.heap[B]? = some (.cells #[.int .i64 0, .int .i64 1, .int .i64 3] 3 (0, 0))) : Calls Tryd.prog 12 #[.agg #[.slice A 4 c], .slice (some ⟨B, 0, none⟩) 3 3] w fun e w' => e = .returned (.bool true) ∧ Below w.heap.size w w' := by
  refine ischain_any A _ 4 c 3 3 R z013 true w h.r (by decide) hT (ints_at 3 _ hB fun k hk => by match k, hk with | 0, _ => rfl | 1, _ => rfl | 2, _ => rfl) (by decide) ⟨fun _ => ⟨h.p, fun k hk => ?_⟩, fun _ => rfl⟩
  match k, hk with
  | 0, _ => exact ⟨by decide, fun h => by omega⟩
  | 1, _ => exact ⟨by decide, fun _ => by show mat R 0 1 = true; rw [h.m 0 (by decide) 1 (by decide)]; decide⟩
  | 2, _ => exact ⟨by decide, fun _ => by show mat R 1 3 = true; rw [h.m 1 (by decide) 3 (by decide)]; decide⟩
theorem dia_nochain {w : World} {A : Option Addr} {c B : Nat} {R : Nat → RowD} (h : DiaR w A R) (hT : Tab w) (hB : w.heap[B]? = some (.cells #[.int .i64 1, .int .i64 2] 3 (0, 0))) : Calls Tryd.prog 12 #[.agg #[.slice A 4 c], .slice (some ⟨B, 0, none⟩) 2 2] w fun e w' => e = .returned (.bool false) ∧ Below w.heap.size w w' := by
  refine ischain_any A _ 4 c 2 2 R z12 false w h.r (by decide) hT (ints_at 2 _ hB fun k hk => by match k, hk with | 0, _ => rfl | 1, _ => rfl) (by decide) ⟨fun h => (by cases h), fun h2 => ?_⟩
  have h3 : mat R 1 2 = true := (h2.2 1 (by decide)).2 (by decide)
  rw [h.m 1 (by decide) 2 (by decide)] at h3
  exact absurd h3 (by decide)
theorem dia_anti {w : World} {A : Option Addr} {c B : Nat} {R : Nat → RowD} (h : DiaR w A R) (hT : Tab w) (hB : w.heap[B]? = some (.cells #[.int .u64 6] 60 (0, 0))) : Calls Tryd.prog 13 #[.agg #[.slice A 4 c], .agg #[.int .i64 4, .slice (some ⟨B, 0, none⟩) 1 1]] w fun e w' => e = .returned (.bool true) ∧ Below w.heap.size w w' :=
  isanti_any A _ 4 c 1 1 4 R s6 true w h.r (by decide) hT ⟨fun k _ => by unfold s6; decide, fun _ => ⟨B, 0, rfl, lt_of_block hB, fun k hk => by
    obtain rfl : k = 0 := by omega
    exact cell_of_row _ _ 0 _ _ _ hB⟩⟩ ⟨fun _ => ⟨h.p, rfl, s6_vld, grt_bad.2 fun i hi j hj => by
      have := d_bad i hi j hj
      unfold bad2 at this ⊢
      rw [h.m i hi j hj]; exact this⟩, fun _ => rfl⟩
set_option maxRecDepth 100000 in
set_option maxHeartbeats 4000000 in
theorem awake_any (w : World) (hT : Tab w) : Calls Tryd.prog 8 #[] w fun e w' => e = .returned (.bool true) ∧ Below w.heap.size w w' := by
  go_enter Tryd.func8, Tryd.ntmps8
  go_wp2_with fail
  refine (dia_any w).mono ?_; rintro e w1 ⟨A1, c1, R1, rfl, hR, hV, hM, B1⟩
  have HC := Lib.hid (dia_width (c := c1) (dia_r hR hV hM) (hT.below B1))
  clear hR hV hM
  go_wp2_with fail
  refine HC.out.mono ?_; rintro e w2 ⟨rfl, b2⟩
  have B2 := below_next B1 b2
  clear HC B1 b2
  go_wp2_with fail
  refine (dia_any w2).mono ?_; rintro e w3 ⟨A3, c3, R3, rfl, hR, hV, hM, b3⟩
  have B3 := below_next B2 b3
  have HC := Lib.hid (dia_height (c := c3) (dia_r hR hV hM) (hT.below B3))
  clear hR hV hM B2 b3
  go_wp2_with fail
  refine HC.out.mono ?_; rintro e w4 ⟨rfl, b4⟩
  have B4 := below_next B3 b4
  clear HC B3 b4
  go_wp2_with fail
  refine (dia_any w4).mono ?_; rintro e w5 ⟨A5, c5, R5, rfl, hR, hV, hM, b5⟩
  have bx := below_new w5 (.cells #[.int .i64 0, .int .i64 1, .int .i64 3] 3)
  have B5 := below_next (below_next B4 b5) bx
  have HC := Lib.hid (dia_chain (c := c5) (dia_r (hR.below bx) hV hM) (hT.below B5) (heap_alloc_new w5 _))
  clear hR hV hM B4 b5 bx
  go_wp2_with fail
  refine HC.out.mono ?_; rintro e w6 ⟨rfl, b6⟩
  have B6 := below_next B5 b6
  clear HC B5 b6
  go_wp2_with fail
  refine (dia_any w6).mono ?_; rintro e w7 ⟨A7, c7, R7, rfl, hR, hV, hM, b7⟩
  have bx := below_new w7 (.cells #[.int .i64 1, .int .i64 2] 3)
  have B7 := below_next (below_next B6 b7) bx
  have HC := Lib.hid (dia_nochain (c := c7) (dia_r (hR.below bx) hV hM) (hT.below B7) (heap_alloc_new w7 _))
  clear hR hV hM B6 b7 bx
  go_wp2_with fail
  refine HC.out.mono ?_; rintro e w8 ⟨rfl, b8⟩
  have B8 := below_next B7 b8
  clear HC B7 b8
  go_wp2_with fail
  refine (dia_any w8).mono ?_; rintro e w9 ⟨A9, c9, R9, rfl, hR, hV, hM, b9⟩
  have bx := below_new w9 (.cells #[.int .u64 6] 60)
  have B9 := below_next (below_next B8 b9) bx
  have HC := Lib.hid (dia_anti (c := c9) (dia_r (hR.below bx) hV hM) (hT.below B9) (heap_alloc_new w9 _))
  clear hR hV hM B8 b9 bx
  go_wp2_with fail
  refine HC.out.mono ?_; rintro e w10 ⟨rfl, b10⟩
  have B10 := below_next B9 b10
  clear HC B9 b10
  go_wp2_with fail
  go_ret
  exact ⟨rfl, B10⟩
end Go.Proofs.YtngpfondnampjaaDoor
