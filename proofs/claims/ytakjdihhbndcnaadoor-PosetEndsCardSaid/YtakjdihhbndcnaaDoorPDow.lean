/- Package poset: the closure of Down. -/
import Derived.Test.YtakjdihhbndcnaaDoorPSam
namespace Go.Proofs.YtakjdihhbndcnaaDoor
open Go.RowKit Go.Sort
/- what is below a set -/
def dwn (n : Nat) (T : Nat → Nat → Bool) (s : Nat → Nat) (i : Nat) : Bool := bt s i || (List.range n).any fun k => T i k && bt s k
theorem bt_and (f g : Nat → Nat) (j : Nat) : bt (comb andW f g) j = (bt f j && bt g j) := by
  unfold bt comb andW; exact Nat.testBit_and _ _ _
theorem vld_and2 {N : Int} {m : Nat} {f g : Nat → Nat} (hf : Vld N m f) : Vld N m (comb andW f g) :=
  ⟨hf.1, hf.2.1, hf.2.2.1, fun i h1 h2 => by rw [bt_and, hf.2.2.2 i h1 h2]; rfl⟩
theorem u64_and2 {m : Nat} {f g : Nat → Nat} (hf : U64 f m) : U64 (comb andW f g) m := fun k hk => Nat.lt_of_le_of_lt Nat.and_le_left (hf k hk)
theorem cnt_pos {n l : Nat} {f s : Nat → Nat} (hf : Vld (n : Int) l f) : (decide (0 < ((cnt (comb andW f s) l : Nat) : Int))) = (List.range n).any fun k => bt f k && bt s k := by
  have h1 := hf.1
  have h2 := hf.2.2.1
  have h3 := hf.2.2.2
  simp only [Int.toNat_natCast] at h2 h3
  refine bool_ext ?_
  rw [decide_eq_true_iff, List.any_eq_true, cnt_mem]
  constructor
  · intro h
    have hne : mem (comb andW f s) (64 * l) ≠ [] := fun e => by rw [e] at h; simp at h
    obtain ⟨k, hk⟩ := List.exists_mem_of_ne_nil _ hne
    obtain ⟨hk1, hk2⟩ := mem_in.1 hk
    rw [bt_and] at hk2
    refine ⟨k, List.mem_range.2 (Classical.byContradiction fun hn => ?_), hk2⟩
    have := h3 k (by omega) hk1
    rw [this] at hk2; cases hk2
  · rintro ⟨k, hk, hb⟩
    have hkm : k ∈ mem (comb andW f s) (64 * l) := mem_in.2 ⟨by have := List.mem_range.1 hk; omega, by rw [bt_and]; exact hb⟩
    have := List.length_pos_of_mem hkm
    omega
set_option maxRecDepth 100000 in
set_option maxHeartbeats 4000000 in
theorem down1_any (pR pS n c i cs : Nat) (A S : Option Addr) (R : Nat → RowD) (s : Nat → Nat) (w : World) (h : Rel w A n R) (hv : VRel n R) (hS : Wds w S ((n + 63) / 64) s) (hs : Vld (n : Int) ((n + 63) / 64) s) (hr : RelAt w pR A n c) (hq : SetAt w pS n S ((n + 63) / 64) cs) (hi : i < n) :
    Calls Tryd.prog 68 #[.int .i64 i, .pointer (some ⟨pR, 0, none⟩), .pointer (some ⟨pS, 0, none⟩)] w fun e w' => e = .returned (.bool (dwn n (mat R) s i)) ∧ Below w.heap.size w w' := by
  obtain ⟨b, off, rfl, hbl, hcz⟩ := h (by omega)
  obtain ⟨x0, x1, xw⟩ := hcz i hi
  have hvk := hv.2 i hi
  rw [hvk.1] at x0
  have hl : (R i).l = (n + 63) / 64 := hv.l hi
  rw [hl] at x1 xw
  have hvi : Vld (n : Int) ((n + 63) / 64) (R i).f := by rw [← hl]; exact hvk.2
  have hcp := cnt_pos (s := s) hvi
  have hdw : Hid (dwn n (mat R) s i = (bt s i || (List.range n).any fun k => bt (R i).f k && bt s k)) := Lib.hid rfl
  have hn := hv.1
  generalize hR : (List.range n).any (fun k => bt (R i).f k && bt s k) = va at *
  have hpR := hr.lt
  have hpS := hq.lt
  have c0 := hr.c0
  have s0 := hq.c0
  have s1 := hq.c1
  have HVI := Lib.hid hvi
  have HS := Lib.hid hs
  have HWS := Lib.hid hS
  have HQ := Lib.hid hq
  have HI : Hid (∀ u, Below w.heap.size w u → Calls Tryd.prog 69 #[.agg #[.int .i64 n, .slice (R i).A ((n + 63) / 64) (R i).c], .agg #[.int .i64 n, .slice S ((n + 63) / 64) cs]] u (SetOk u n ((n + 63) / 64) (comb andW (R i).f s))) := Lib.hid fun u hu => interB_any n (R i).A S ((n + 63) / 64) (R i).c cs (R i).f s u (xw.below hu) (hS.below hu) hvi hs
  have hUF : Hid (U64 (comb andW (R i).f s) ((n + 63) / 64)) := Lib.hid (u64_and2 xw.1)
  generalize (R i).A = A1 at *
  generalize (R i).c = c1 at *
  generalize (R i).f = f1 at *
  have bD : Below w.heap.size w w.drew := (Below.refl _ _).drew
  have bDA : Below w.heap.size w (w.alloc (.cells #[.int .i64 0, .slice none 0 0] 37)).drew := ((Below.refl _ _).alloc (Nat.le_refl _) _).drew
  have HBD := Lib.hid bD
  have HBDA := Lib.hid bDA
  have eA : (w.alloc (.cells #[.int .i64 0, .slice none 0 0] 37)).drew.heap[w.heap.size]? = some (.cells #[.int .i64 0, .slice none 0 0] 37 (0, 0)) := heap_alloc_new w _
  have HEA := Lib.hid eA
  unfold SetOk at HI
  clear hcz hr hq hS hs hvi hvk hl xw hv bD bDA eA hR
  go_enter Tryd.func68, Tryd.ntmps68
  go_upto_region 1 with fail
  go_cut [5, 6] from 7 to 16 (fun x y wx => ∃ p g, x = .pointer (some ⟨p, 0, none⟩) ∧ y = .int .i64 0 ∧ SetAt wx p n (some ⟨g, 0, none⟩) ((n + 63) / 64) ((n + 63) / 64) ∧ Wds wx (some ⟨g, 0, none⟩) ((n + 63) / 64) (comb andW f1 s) ∧ Below w.heap.size w wx)
  case first =>
    go_region_with (go_at_call 69; (with_reducible refine (HI.out _ (by first | exact HBD.out | exact HBDA.out)).mono ?_); rintro e w4 ⟨g, rfl, hg, hrow, b4⟩; (first | (have e4 := (b4.block w.heap.size (by simp)).trans HEA.out; have z0 := cell_of_row _ _ 0 _ _ _ e4; have z1 := cell_of_row _ _ 1 _ _ _ e4; have y0 := frozen_of_row _ _ 0 _ _ e4; have y1 := frozen_of_row _ _ 1 _ _ e4) | skip))
    all_goals
      go_wp2_with fail
      go_meet
    all_goals
      first
        | exact ⟨w4.heap.size, g, rfl, rfl, setAt_new w4 n (some ⟨g, 0, none⟩) ((n + 63) / 64) ((n + 63) / 64), (row_wds hrow hUF.out).below ((Below.refl _ _).alloc (Nat.le_refl _) _), (HBD.out.trans (b4.mono (Nat.le_refl _))).alloc b4.size _⟩
        | (have hgne : g ≠ w.heap.size := by have h1 : w.heap.size + 1 ≤ (w.alloc (.cells #[.int .i64 0, .slice none 0 0] 37)).drew.heap.size := by simp
                                             omega
           exact ⟨w.heap.size, g, rfl, rfl, setAt_put (w := w4) e4, row_wds ((hrow.setOther (by exact hgne) _).setOther (by exact hgne) _) hUF.out, ((HBDA.out.trans (b4.mono (by simp))).setCell (Nat.le_refl _) _).setCell (Nat.le_refl _) _⟩)
  case rest =>
    obtain ⟨p, g, rfl, rfl, hp, hw, hB⟩ := hcut
    have hq2 := HQ.out.below hB
    clear c0 s0 s1 x0 x1 HQ HI HBD HBDA HEA hUF
    have s0 := hq2.c0
    have s1 := hq2.c1
    obtain ⟨vb, hvb⟩ : ∃ v, bt s i = v := ⟨_, rfl⟩
    have HA := Lib.hid (has_in n i S ((n + 63) / 64) cs s vb wc (HWS.out.below hB) HS.out hi hvb)
    rw [hvb] at hdw
    clear hvb hq2
    go_wp2_with fail
    refine HA.out.mono ?_; rintro e w5 ⟨rfl, b5⟩
    have B5 := below_next hB b5
    cases vb with
    | true =>
      clear HA hcp s0 s1
      go_wp2_with fail
      go_ret
      exact ⟨by rw [hdw.out]; rfl, B5⟩
    | false =>
      have hp5 := hp.below b5
      have p0 := hp5.c0
      have p1 := hp5.c1
      have HC := Lib.hid (count_yes n (some ⟨g, 0, none⟩) ((n + 63) / 64) ((n + 63) / 64) (comb andW f1 s) w5 (hw.below b5) (vld_and2 HVI.out))
      generalize cnt (comb andW f1 s) ((n + 63) / 64) = q at *
      clear HA s0 s1 hp hp5 hw b5
      go_wp2_with fail
      refine HC.out.mono ?_; rintro e w6 ⟨rfl, b6⟩
      clear HC p0 p1
      go_wp2_with fail
      go_ret
      exact ⟨by rw [hdw.out]; first | rfl | simpa using hcp, below_next B5 b6⟩
end Go.Proofs.YtakjdihhbndcnaaDoor
