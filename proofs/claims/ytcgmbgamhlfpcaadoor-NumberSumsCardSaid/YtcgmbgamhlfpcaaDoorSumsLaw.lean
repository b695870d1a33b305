/- NumberSums: for every two integers and every list of integers the law returns true. -/
import Derived.Test.YtcgmbgamhlfpcaaDoorSumsA
import Derived.Test.YtcgmbgamhlfpcaaDoorSumsB
import Derived.Test.YtcgmbgamhlfpcaaDoorKit
namespace Go.Proofs.YtcgmbgamhlfpcaaDoor
open Go.RowKit
theorem row_cells {w : World} {a : Option Addr} {len cap : Nat} {zs : List Int} (h : IsRow w a len cap zs) (hl : 0 < len) :
    ∃ bl off, a = some ⟨bl, off, none⟩ ∧ bl < w.heap.size ∧ Cells w bl off len (fun i => zs.getD i 0) := by
  rcases h with ⟨_, h, _⟩ | ⟨x, rfl, h1, _, h3, hc⟩
  · omega
  · obtain ⟨bl, off, rfl, hc'⟩ := ints_at hc (by omega)
    exact ⟨bl, off, rfl, World.block_lt_of_cell? w _ (hc' 0 (by omega)), fun i hi => hc' i (by omega)⟩
theorem sums_inv1 (a b : Int) (v : Option Addr) (len cap : Nat) (zs : List Int) (w : World) (h : a < -1125899906842624 ∨ 1125899906842624 < a) (hr : IsRow w v len cap zs) (hk : ¬ ((100 < len ∧ len ≤ 1000) ∨ 1100 < len)) :
    Calls Tryd.prog 3 #[.int .i64 a, .int .i64 b, .slice v len cap] w fun e w' => e = .returned (.bool true) ∧ Below w.heap.size w w' := by
  by_cases hl0 : len = 0
  · subst hl0; exact sums_inv1_nil a b v cap w h
  · by_cases hl1 : 1000 < len
    · exact sums_inv1_full a b v len cap w h hl1 (by omega)
    · obtain ⟨bl, off, rfl, hbl, hc⟩ := row_cells hr (by omega)
      rcases first_bad (fun i => zs.getD i 0) len with hz | ⟨J, hJ, hx, hz⟩
      · by_cases hq : -1125899906842624 ≤ psum (fun i => zs.getD i 0) len ∧ psum (fun i => zs.getD i 0) len ≤ 1125899906842624
        · exact sums_inv1_ok a b bl off len cap _ w h (by omega) hc hbl hz hq.1 hq.2
        · exact sums_inv1_big a b bl off len cap _ w h (by omega) hc hbl hz (by omega)
      · exact sums_inv1_bad a b bl off len cap J _ w h (by omega) hc hbl hJ hx hz
theorem sums_inv2 (a b : Int) (v : Option Addr) (len cap : Nat) (zs : List Int) (w : World) (ha : -1125899906842624 ≤ a ∧ a ≤ 1125899906842624) (h : b < -1125899906842624 ∨ 1125899906842624 < b) (hr : IsRow w v len cap zs) (hk : ¬ ((100 < len ∧ len ≤ 1000) ∨ 1100 < len)) :
    Calls Tryd.prog 3 #[.int .i64 a, .int .i64 b, .slice v len cap] w fun e w' => e = .returned (.bool true) ∧ Below w.heap.size w w' := by
  by_cases hl0 : len = 0
  · subst hl0; exact sums_inv2_nil a b v cap w ha h
  · by_cases hl1 : 1000 < len
    · exact sums_inv2_full a b v len cap w ha h hl1 (by omega)
    · obtain ⟨bl, off, rfl, hbl, hc⟩ := row_cells hr (by omega)
      rcases first_bad (fun i => zs.getD i 0) len with hz | ⟨J, hJ, hx, hz⟩
      · by_cases hq : -1125899906842624 ≤ psum (fun i => zs.getD i 0) len ∧ psum (fun i => zs.getD i 0) len ≤ 1125899906842624
        · exact sums_inv2_ok a b bl off len cap _ w ha h (by omega) hc hbl hz hq.1 hq.2
        · exact sums_inv2_big a b bl off len cap _ w ha h (by omega) hc hbl hz (by omega)
      · exact sums_inv2_bad a b bl off len cap J _ w ha h (by omega) hc hbl hJ hx hz
theorem sums_vsf (a b : Int) (v : Option Addr) (len cap : Nat) (zs : List Int) (w : World) (ha : -1125899906842624 ≤ a ∧ a ≤ 1125899906842624) (hb : -1125899906842624 ≤ b ∧ b ≤ 1125899906842624) (hs : -1125899906842624 ≤ a + b ∧ a + b ≤ 1125899906842624) (hf : Fits a b) (hr : IsRow w v len cap zs) (hk : ¬ ((100 < len ∧ len ≤ 1000) ∨ 1100 < len)) :
    Calls Tryd.prog 3 #[.int .i64 a, .int .i64 b, .slice v len cap] w fun e w' => e = .returned (.bool true) ∧ Below w.heap.size w w' := by
  by_cases hl0 : len = 0
  · subst hl0; exact sums_vsf_nil a b v cap w ha hb hs hf
  · by_cases hl1 : 1000 < len
    · exact sums_vsf_full a b v len cap w ha hb hs hf hl1 (by omega)
    · obtain ⟨bl, off, rfl, hbl, hc⟩ := row_cells hr (by omega)
      rcases first_bad (fun i => zs.getD i 0) len with hz | ⟨J, hJ, hx, hz⟩
      · by_cases hq : -1125899906842624 ≤ psum (fun i => zs.getD i 0) len ∧ psum (fun i => zs.getD i 0) len ≤ 1125899906842624
        · exact sums_vsf_ok a b bl off len cap _ w ha hb hs hf (by omega) hc hbl hz hq.1 hq.2
        · exact sums_vsf_big a b bl off len cap _ w ha hb hs hf (by omega) hc hbl hz (by omega)
      · exact sums_vsf_bad a b bl off len cap J _ w ha hb hs hf (by omega) hc hbl hJ hx hz
theorem sums_vso (a b : Int) (v : Option Addr) (len cap : Nat) (zs : List Int) (w : World) (ha : -1125899906842624 ≤ a ∧ a ≤ 1125899906842624) (hb : -1125899906842624 ≤ b ∧ b ≤ 1125899906842624) (hs : -1125899906842624 ≤ a + b ∧ a + b ≤ 1125899906842624) (hf : ¬ Fits a b) (hr : IsRow w v len cap zs) (hk : ¬ ((100 < len ∧ len ≤ 1000) ∨ 1100 < len)) :
    Calls Tryd.prog 3 #[.int .i64 a, .int .i64 b, .slice v len cap] w fun e w' => e = .returned (.bool true) ∧ Below w.heap.size w w' := by
  by_cases hl0 : len = 0
  · subst hl0; exact sums_vso_nil a b v cap w ha hb hs hf
  · by_cases hl1 : 1000 < len
    · exact sums_vso_full a b v len cap w ha hb hs hf hl1 (by omega)
    · obtain ⟨bl, off, rfl, hbl, hc⟩ := row_cells hr (by omega)
      rcases first_bad (fun i => zs.getD i 0) len with hz | ⟨J, hJ, hx, hz⟩
      · by_cases hq : -1125899906842624 ≤ psum (fun i => zs.getD i 0) len ∧ psum (fun i => zs.getD i 0) len ≤ 1125899906842624
        · exact sums_vso_ok a b bl off len cap _ w ha hb hs hf (by omega) hc hbl hz hq.1 hq.2
        · exact sums_vso_big a b bl off len cap _ w ha hb hs hf (by omega) hc hbl hz (by omega)
      · exact sums_vso_bad a b bl off len cap J _ w ha hb hs hf (by omega) hc hbl hJ hx hz
theorem sums_vtf (a b : Int) (v : Option Addr) (len cap : Nat) (zs : List Int) (w : World) (ha : -1125899906842624 ≤ a ∧ a ≤ 1125899906842624) (hb : -1125899906842624 ≤ b ∧ b ≤ 1125899906842624) (hs : a + b < -1125899906842624 ∨ 1125899906842624 < a + b) (hf : Fits a b) (hr : IsRow w v len cap zs) (hk : ¬ ((100 < len ∧ len ≤ 1000) ∨ 1100 < len)) :
    Calls Tryd.prog 3 #[.int .i64 a, .int .i64 b, .slice v len cap] w fun e w' => e = .returned (.bool true) ∧ Below w.heap.size w w' := by
  by_cases hl0 : len = 0
  · subst hl0; exact sums_vtf_nil a b v cap w ha hb hs hf
  · by_cases hl1 : 1000 < len
    · exact sums_vtf_full a b v len cap w ha hb hs hf hl1 (by omega)
    · obtain ⟨bl, off, rfl, hbl, hc⟩ := row_cells hr (by omega)
      rcases first_bad (fun i => zs.getD i 0) len with hz | ⟨J, hJ, hx, hz⟩
      · by_cases hq : -1125899906842624 ≤ psum (fun i => zs.getD i 0) len ∧ psum (fun i => zs.getD i 0) len ≤ 1125899906842624
        · exact sums_vtf_ok a b bl off len cap _ w ha hb hs hf (by omega) hc hbl hz hq.1 hq.2
        · exact sums_vtf_big a b bl off len cap _ w ha hb hs hf (by omega) hc hbl hz (by omega)
      · exact sums_vtf_bad a b bl off len cap J _ w ha hb hs hf (by omega) hc hbl hJ hx hz
theorem sums_vto (a b : Int) (v : Option Addr) (len cap : Nat) (zs : List Int) (w : World) (ha : -1125899906842624 ≤ a ∧ a ≤ 1125899906842624) (hb : -1125899906842624 ≤ b ∧ b ≤ 1125899906842624) (hs : a + b < -1125899906842624 ∨ 1125899906842624 < a + b) (hf : ¬ Fits a b) (hr : IsRow w v len cap zs) (hk : ¬ ((100 < len ∧ len ≤ 1000) ∨ 1100 < len)) :
    Calls Tryd.prog 3 #[.int .i64 a, .int .i64 b, .slice v len cap] w fun e w' => e = .returned (.bool true) ∧ Below w.heap.size w w' := by
  by_cases hl0 : len = 0
  · subst hl0; exact sums_vto_nil a b v cap w ha hb hs hf
  · by_cases hl1 : 1000 < len
    · exact sums_vto_full a b v len cap w ha hb hs hf hl1 (by omega)
    · obtain ⟨bl, off, rfl, hbl, hc⟩ := row_cells hr (by omega)
      rcases first_bad (fun i => zs.getD i 0) len with hz | ⟨J, hJ, hx, hz⟩
      · by_cases hq : -1125899906842624 ≤ psum (fun i => zs.getD i 0) len ∧ psum (fun i => zs.getD i 0) len ≤ 1125899906842624
        · exact sums_vto_ok a b bl off len cap _ w ha hb hs hf (by omega) hc hbl hz hq.1 hq.2
        · exact sums_vto_big a b bl off len cap _ w ha hb hs hf (by omega) hc hbl hz (by omega)
      · exact sums_vto_bad a b bl off len cap J _ w ha hb hs hf (by omega) hc hbl hJ hx hz
theorem sums_any (a b : Int) (v : Option Addr) (len cap : Nat) (zs : List Int) (w : World) (hr : IsRow w v len cap zs) :
    Calls Tryd.prog 3 #[.int .i64 a, .int .i64 b, .slice v len cap] w fun e w' => e = .returned (.bool true) ∧ Below w.heap.size w w' := by
  by_cases hk : (100 < len ∧ len ≤ 1000) ∨ 1100 < len
  · refine sums_skip a b v len cap w hk ?_
    rcases hr with ⟨_, h, _⟩ | ⟨x, rfl, h1, h2, _⟩
    · omega
    · unfold maxLen at h2; omega
  by_cases ha : -1125899906842624 ≤ a ∧ a ≤ 1125899906842624
  · by_cases hb : -1125899906842624 ≤ b ∧ b ≤ 1125899906842624
    · by_cases hs : -1125899906842624 ≤ a + b ∧ a + b ≤ 1125899906842624
      · by_cases hf : Fits a b
        · exact sums_vsf a b v len cap zs w ha hb hs hf hr hk
        · exact sums_vso a b v len cap zs w ha hb hs hf hr hk
      · by_cases hf : Fits a b
        · exact sums_vtf a b v len cap zs w ha hb (by omega) hf hr hk
        · exact sums_vto a b v len cap zs w ha hb (by omega) hf hr hk
    · exact sums_inv2 a b v len cap zs w ha (by omega) hr hk
  · exact sums_inv1 a b v len cap zs w (by omega) hr hk
end Go.Proofs.YtcgmbgamhlfpcaaDoor
