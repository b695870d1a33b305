/- Merged: WAn1, WAnt, WAn2. -/
import Derived.Test.YtngpfondnampjaaDoorWChn
import Derived.Test.YtngpfondnampjaaDoorMSet
/- Package width: the closure of IsAntichain. -/
namespace Go.Proofs.YtngpfondnampjaaDoor
open Go.RowKit Go.Sort
theorem bt_and7 (f g : Nat → Nat) (j : Nat) : bt (comb andW f g) j = (bt f j && bt g j) := by
  unfold bt comb andW; exact Nat.testBit_and _ _ _
theorem vld_and7 {N : Int} {m : Nat} {f g : Nat → Nat} (hf : Vld N m f) : Vld N m (comb andW f g) :=
  ⟨hf.1, hf.2.1, hf.2.2.1, fun i h1 h2 => by rw [bt_and7, hf.2.2.2 i h1 h2]; rfl⟩
theorem u64_and7 {m : Nat} {f g : Nat → Nat} (hf : U64 f m) : U64 (comb andW f g) m := fun k hk => Nat.lt_of_le_of_lt Nat.and_le_left (hf k hk)
theorem cnt_pos7 {n l : Nat} {f s : Nat → Nat} (hf : Vld (n : Int) l f) : (decide (0 < ((cnt (comb andW f s) l : Nat) : Int))) = (List.range n).any fun k => bt f k && bt s k := by
  have h1 := hf.1
  have h2 := hf.2.2.1
  have h3 := hf.2.2.2
  simp only [Int.toNat_natCast] at h2 h3
  refine bool_ext ?_
  rw [decide_eq_true_iff, List.any_eq_true, cnt_mem]
  constructor
  · intro h
    have hne : mem (comb andW f s) (64 * l) ≠ [] := fun e => by rw [e] at h; simp at h
    obtain ⟨k, hk⟩ := List.exists_mem_of_ne_nil _ hne
    obtain ⟨hk1, hk2⟩ := mem_in.1 hk
    rw [bt_and7] at hk2
    refine ⟨k, List.mem_range.2 (Classical.byContradiction fun hn => ?_), hk2⟩
    have := h3 k (by omega) hk1
    rw [this] at hk2; cases hk2
  · rintro ⟨k, hk, hb⟩
    have hkm : k ∈ mem (comb andW f s) (64 * l) := mem_in.2 ⟨by have := List.mem_range.1 hk; omega, by rw [bt_and7]; exact hb⟩
    have := List.length_pos_of_mem hkm
    omega
/- a greater one is in the set -/
def grt (n : Nat) (T : Nat → Nat → Bool) (s : Nat → Nat) (i : Nat) : Bool := (List.range n).any fun k => T i k && bt s k
set_option maxRecDepth 100000 in
set_option maxHeartbeats 4000000 in
theorem anti1_any (pR pS n c i cs : Nat) (A S : Option Addr) (R : Nat → RowD) (s : Nat → Nat) (w : World) (h : Rel w A n R) (hv : VRel n R) (hS : Wds w S ((n + 63) / 64) s) (hs : Vld (n : Int) ((n + 63) / 64) s) (hr : RelAt w pR A n c) (hq : SetAt w pS n S ((n + 63) / 64) cs) (hi : i < n) :
    Calls Tryd.prog 44 #[.int .i64 i, .pointer (some ⟨pR, 0, none⟩), .pointer (some ⟨pS, 0, none⟩)] w fun e w' => e = .returned (.bool (grt n (mat R) s i)) ∧ Below w.heap.size w w' := by
  obtain ⟨b, off, rfl, hbl, hcz⟩ := h (by omega)
  obtain ⟨x0, x1, xw⟩ := hcz i hi
  have hvk := hv.2 i hi
  rw [hvk.1] at x0
  have hl : (R i).l = (n + 63) / 64 := hv.l hi
  rw [hl] at x1 xw
  have hvi : Vld (n : Int) ((n + 63) / 64) (R i).f := by rw [← hl]; exact hvk.2
  have hcp := cnt_pos7 (s := s) hvi
  have hdw : Hid (grt n (mat R) s i = (List.range n).any fun k => bt (R i).f k && bt s k) := Lib.hid rfl
  have hn := hv.1
  generalize hR : (List.range n).any (fun k => bt (R i).f k && bt s k) = va at *
  have hpR := hr.lt
  have hpS := hq.lt
  have c0 := hr.c0
  have s0 := hq.c0
  have s1 := hq.c1
  have HVI := Lib.hid hvi
  have HI : Hid (∀ u, Below w.heap.size w u → Calls Tryd.prog 45 #[.agg #[.int .i64 n, .slice (R i).A ((n + 63) / 64) (R i).c], .agg #[.int .i64 n, .slice S ((n + 63) / 64) cs]] u (SetOk u n ((n + 63) / 64) (comb andW (R i).f s))) := Lib.hid fun u hu => interB_any n (R i).A S ((n + 63) / 64) (R i).c cs (R i).f s u (xw.below hu) (hS.below hu) hvi hs
  have hUF : Hid (U64 (comb andW (R i).f s) ((n + 63) / 64)) := Lib.hid (u64_and7 xw.1)
  generalize (R i).A = A1 at *
  generalize (R i).c = c1 at *
  generalize (R i).f = f1 at *
  have bD : Below w.heap.size w w.drew := (Below.refl _ _).drew
  have bDA : Below w.heap.size w (w.alloc (.cells #[.int .i64 0, .slice none 0 0] 28)).drew := ((Below.refl _ _).alloc (Nat.le_refl _) _).drew
  have HBD := Lib.hid bD
  have HBDA := Lib.hid bDA
  have eA : (w.alloc (.cells #[.int .i64 0, .slice none 0 0] 28)).drew.heap[w.heap.size]? = some (.cells #[.int .i64 0, .slice none 0 0] 28 (0, 0)) := heap_alloc_new w _
  have HEA := Lib.hid eA
  unfold SetOk at HI
  clear hcz hr hq hS hs hvi hvk hl xw hv bD bDA eA hR
  go_enter Tryd.func44, Tryd.ntmps44
  go_upto_region 1 with fail
  go_cut [5, 6] from 7 to 16 (fun x y wx => ∃ p g, x = .pointer (some ⟨p, 0, none⟩) ∧ y = .int .i64 0 ∧ SetAt wx p n (some ⟨g, 0, none⟩) ((n + 63) / 64) ((n + 63) / 64) ∧ Wds wx (some ⟨g, 0, none⟩) ((n + 63) / 64) (comb andW f1 s) ∧ Below w.heap.size w wx)
  case first =>
    go_region_with (go_at_call 45; (with_reducible refine (HI.out _ (by first | exact HBD.out | exact HBDA.out)).mono ?_); rintro e w4 ⟨g, rfl, hg, hrow, b4⟩; (first | (have e4 := (b4.block w.heap.size (by simp)).trans HEA.out; have z0 := cell_of_row _ _ 0 _ _ _ e4; have z1 := cell_of_row _ _ 1 _ _ _ e4; have y0 := frozen_of_row _ _ 0 _ _ e4; have y1 := frozen_of_row _ _ 1 _ _ e4) | skip))
    all_goals
      go_wp2_with fail
      go_meet
    all_goals
      first
        | exact ⟨w4.heap.size, g, rfl, rfl, setAt_new w4 n (some ⟨g, 0, none⟩) ((n + 63) / 64) ((n + 63) / 64), (row_wds hrow hUF.out).below ((Below.refl _ _).alloc (Nat.le_refl _) _), (HBD.out.trans (b4.mono (Nat.le_refl _))).alloc b4.size _⟩
        | (have hgne : g ≠ w.heap.size := by have h1 : w.heap.size + 1 ≤ (w.alloc (.cells #[.int .i64 0, .slice none 0 0] 28)).drew.heap.size := by simp
                                             omega
           exact ⟨w.heap.size, g, rfl, rfl, setAt_put (w := w4) e4, row_wds ((hrow.setOther (by exact hgne) _).setOther (by exact hgne) _) hUF.out, ((HBDA.out.trans (b4.mono (by simp))).setCell (Nat.le_refl _) _).setCell (Nat.le_refl _) _⟩)
  case rest =>
    obtain ⟨p, g, rfl, rfl, hp, hw, hB⟩ := hcut
    clear c0 s0 s1 x0 x1 HI HBD HBDA HEA hUF
    have p0 := hp.c0
    have p1 := hp.c1
    have HC := Lib.hid (count_yes n (some ⟨g, 0, none⟩) ((n + 63) / 64) ((n + 63) / 64) (comb andW f1 s) wc hw (vld_and7 HVI.out))
    generalize cnt (comb andW f1 s) ((n + 63) / 64) = q at *
    clear hp hw
    go_wp2_with fail
    refine HC.out.mono ?_; rintro e w6 ⟨rfl, b6⟩
    clear HC p0 p1
    go_wp2_with fail
    go_ret
    exact ⟨by rw [hdw.out]; first | rfl | simpa using hcp, below_next hB b6⟩
end Go.Proofs.YtngpfondnampjaaDoor
/- Package width: antichains. -/
namespace Go.Proofs.YtngpfondnampjaaDoor
open Go.RowKit Go.Sort
set_option maxRecDepth 100000 in
set_option maxHeartbeats 1000000 in
theorem index_anti (A : Option Addr) (m c pR pS : Nat) (z : Nat → Nat) (g : Nat → Bool) (J : Nat) (r : Int) (w : World) (h : Ints w A m (fun k => ((z k : Nat) : Int))) (hn : m ≤ 1000000) (hJ : J ≤ m)
    (hg : ∀ k, k < m → ∀ u, Below w.heap.size w u → Calls Tryd.prog 44 #[.int .i64 (z k : Nat), .pointer (some ⟨pR, 0, none⟩), .pointer (some ⟨pS, 0, none⟩)] u fun e w' => e = .returned (.bool (g k)) ∧ Below u.heap.size u w')
    (hz : ∀ k, k < J → g k = false) (hr : (r = -1 ∧ J = m) ∨ (r = J ∧ J < m ∧ g J = true)) :
    Calls Tryd.prog 70 #[.slice A m c, .func (Fn.func 44) #[] #[.pointer (some ⟨pR, 0, none⟩), .pointer (some ⟨pS, 0, none⟩)]] w fun e w' => e = .returned (.int .i64 r) ∧ Below w.heap.size w w' := by
  have HH := Lib.hid h; clear h
  have HZ := Lib.hid hz; clear hz
  have HR := Lib.hid hr; clear hr
  have HG := Lib.hid hg; clear hg
  go_enter Tryd.func70, Tryd.ntmps70
  go_wp2_with fail
  go_loopw [5, 8] (fun x i wr => ∃ K : Nat, K ≤ J ∧ i = .int .i64 K ∧ Below w.heap.size w wr) (fun _ i _ => J - (intOf i).toNat)
  case atStart => exact ⟨0, by omega, rfl, Below.refl _ _⟩
  case round =>
    obtain ⟨K, hK, rfl, hB⟩ := hrel
    by_cases hlt : K < m
    · obtain ⟨b, off, rfl, hbl, hcz⟩ := (HH.out.below hB) (by omega)
      have x0 : wr.cell? ⟨b, off + K, none⟩ = some (.int .i64 ((z K : Nat) : Int)) := hcz K hlt
      have HC := Lib.hid (HG.out K hlt wr hB)
      clear hcz hbl
      generalize hzk : z K = y at *
      clear hzk
      by_cases hKJ : K < J
      · have HX := HZ.out K hKJ
        rw [HX] at HC
        clear HX
        go_wp2_with fail
        refine HC.out.mono ?_; rintro e w2 ⟨rfl, b2⟩
        go_wp2_with fail
        go_roundw
        case rel => exact ⟨K + 1, by omega, by go_num, below_next hB b2⟩
        case measure => simp [intOf]; omega
      · obtain rfl : K = J := by omega
        rcases HR.out with ⟨_, h2⟩ | ⟨rfl, _, h3⟩
        · omega
        · rw [h3] at HC
          clear h3
          go_wp2_with fail
          refine HC.out.mono ?_; rintro e w2 ⟨rfl, b2⟩
          go_wp2_with fail
          go_ret
          exact ⟨rfl, below_next hB b2⟩
    · rcases HR.out with ⟨rfl, h2⟩ | ⟨_, h2, _⟩
      · have HJ := Lib.hid h2; clear h2
        go_wp2_with fail
        go_ret
        exact ⟨rfl, hB⟩
      · omega
theorem contains_anti (A : Option Addr) (m c pR pS : Nat) (z : Nat → Nat) (g : Nat → Bool) (v : Bool) (w : World) (h : Ints w A m (fun k => ((z k : Nat) : Int))) (hn : m ≤ 1000000)
    (hg : ∀ k, k < m → ∀ u, Below w.heap.size w u → Calls Tryd.prog 44 #[.int .i64 (z k : Nat), .pointer (some ⟨pR, 0, none⟩), .pointer (some ⟨pS, 0, none⟩)] u fun e w' => e = .returned (.bool (g k)) ∧ Below u.heap.size u w')
    (hv : v = true ↔ ∃ k, k < m ∧ g k = true) :
    Calls Tryd.prog 42 #[.slice A m c, .func (Fn.func 44) #[] #[.pointer (some ⟨pR, 0, none⟩), .pointer (some ⟨pS, 0, none⟩)]] w fun e w' => e = .returned (.bool v) ∧ Below w.heap.size w w' := by
  cases v with
  | true =>
    obtain ⟨k, hk, hk2⟩ := hv.1 rfl
    obtain ⟨J, hJ, hJ2, hJ3⟩ := first_bad (p := fun k => g k = false) (n := m) (fun hall => by have := hall k hk; rw [hk2] at this; cases this)
    have H2 : g J = true := by cases hc : g J with | true => rfl | false => exact absurd hc hJ2
    have HC := Lib.hid (index_anti A m c pR pS z g J J w h hn (by omega) hg hJ3 (Or.inr ⟨rfl, hJ, H2⟩))
    clear hJ2 hJ3 hk2 H2 h hg hv
    go_enter Tryd.func42, Tryd.ntmps42
    go_wp2_with fail
    refine HC.out.mono ?_; rintro e w2 ⟨rfl, b2⟩
    go_wp2_with fail
    go_ret
    exact ⟨rfl, b2⟩
  | false =>
    have HC := Lib.hid (index_anti A m c pR pS z g m (-1) w h hn (Nat.le_refl _) hg (fun k hk => by cases hc : g k with | false => rfl | true => (have := hv.2 ⟨k, hk, hc⟩; cases this)) (Or.inl ⟨rfl, rfl⟩))
    clear h hg hv
    go_enter Tryd.func42, Tryd.ntmps42
    go_wp2_with fail
    refine HC.out.mono ?_; rintro e w2 ⟨rfl, b2⟩
    go_wp2_with fail
    go_ret
    exact ⟨rfl, b2⟩
end Go.Proofs.YtngpfondnampjaaDoor
/- Package width: IsAntichain. -/
namespace Go.Proofs.YtngpfondnampjaaDoor
open Go.RowKit Go.Sort
/- of a poset's numbers, a set without two comparable ones -/
def AntiP (n : Nat) (T : Nat → Nat → Bool) (N : Int) (l : Nat) (s : Nat → Nat) : Prop := N = n ∧ Vld N l s ∧ ∀ i, i < n → bt s i = true → grt n T s i = false
theorem anti_list {n : Nat} {T : Nat → Nat → Bool} {s : Nat → Nat} {v : Bool} (h : v = true ↔ ∀ i, i < n → bt s i = true → grt n T s i = false) :
    (!v) = true ↔ ∃ k, k < ((List.range n).filter (bt s)).length ∧ grt n T s (((List.range n).filter (bt s)).getD k 0) = true := by
  constructor
  · intro hv
    have hv2 : v = false := by cases v <;> simp_all
    have hno : ¬ ∀ i, i < n → bt s i = true → grt n T s i = false := fun ha => by have := h.2 ha; rw [hv2] at this; cases this
    obtain ⟨i, hi, hb, hg⟩ : ∃ i, i < n ∧ bt s i = true ∧ grt n T s i = true := Classical.byContradiction fun hne => hno fun i hi hb => by
      cases hc : grt n T s i with
      | false => rfl
      | true => exact absurd ⟨i, hi, hb, hc⟩ hne
    have hm : i ∈ (List.range n).filter (bt s) := List.mem_filter.2 ⟨List.mem_range.2 hi, hb⟩
    obtain ⟨k, hk, he⟩ := List.getElem_of_mem hm
    refine ⟨k, hk, ?_⟩
    rw [List.getD_eq_getElem?_getD, List.getElem?_eq_getElem hk, Option.getD_some, he]
    exact hg
  · rintro ⟨k, hk, hg⟩
    rw [List.getD_eq_getElem?_getD, List.getElem?_eq_getElem hk, Option.getD_some] at hg
    have hm := List.getElem_mem hk
    generalize ((List.range n).filter (bt s))[k] = i at *
    obtain ⟨h1, h2⟩ := List.mem_filter.1 hm
    cases v with
    | false => rfl
    | true => have := h.1 rfl i (List.mem_range.1 h1) h2; rw [hg] at this; cases this
set_option maxRecDepth 100000 in
set_option maxHeartbeats 4000000 in
theorem isanti_any (A S : Option Addr) (n c l cs : Nat) (N : Int) (R : Nat → RowD) (s : Nat → Nat) (v : Bool) (w : World) (h : Rel w A n R) (hn1 : n ≤ 1000000) (hT : Tab w) (hS : Wds w S l s) (hvv : v = true ↔ POrd n R ∧ AntiP n (mat R) N l s) :
    Calls Tryd.prog 13 #[.agg #[.slice A n c], .agg #[.int .i64 N, .slice S l cs]] w fun e w' => e = .returned (.bool v) ∧ Below w.heap.size w w' := by
  have HH := Lib.hid h
  have HS := Lib.hid hS
  have HVV := Lib.hid hvv
  have r0 := (relAt_new w A n c).alloc (.cells #[.int .i64 N, .slice S l cs] 28)
  have q0 := setAt_new (w.alloc (.cells #[.slice A n c] 24)) N S l cs
  have hz : (w.alloc (.cells #[.slice A n c] 24)).heap.size = w.heap.size + 1 := by simp
  rw [hz] at q0
  have b0 : Below w.heap.size w ((w.alloc (.cells #[.slice A n c] 24)).alloc (.cells #[.int .i64 N, .slice S l cs] 28)) := ((Below.refl _ _).alloc (Nat.le_refl _) _).alloc (by simp) _
  obtain ⟨vp, hvp⟩ : ∃ v : Bool, v = true ↔ POrd n R := ⟨@decide _ (Classical.propDecidable _), @decide_eq_true_iff _ (Classical.propDecidable _)⟩
  have HVP := Lib.hid hvp
  clear h hS hvv hvp hz
  go_enter Tryd.func13, Tryd.ntmps13
  go_upto_region 1 with fail
  generalize (w.alloc (.cells #[.slice A n c] 24)).alloc (.cells #[.int .i64 N, .slice S l cs] 28) = W at *
  have c0 := r0.c0
  go_wp2_with fail
  refine (pvalid_any A n c R vp W (HH.out.below b0) hn1 (hT.below b0) HVP.out).mono ?_; rintro e w2 ⟨rfl, b2⟩
  have r2 := r0.below b2
  have q2 := q0.below b2
  have B2 := below_next b0 b2
  clear c0 r0 q0 b2 b0
  cases vp with
  | false =>
    obtain rfl : v = false := by
      cases hc : v with
      | false => rfl
      | true => have := HVP.out.2 (HVV.out.1 hc).1; cases this
    go_wp2_with fail
    go_ret
    exact ⟨rfl, B2⟩
  | true =>
    have hP := HVP.out.1 (by first | rfl | exact trivial)
    have HP := Lib.hid hP
    have hn := hP.1.1
    clear hP
    have d0 := q2.c0
    have d1 := q2.c1
    by_cases hs : Vld N l s
    · have HC := Lib.hid (valid_yes N S l cs s w2 (HS.out.below B2) hs)
      have HVS := Lib.hid hs
      clear hs
      go_wp2_with fail
      refine HC.out.mono ?_; rintro e w3 ⟨rfl, b3⟩
      have r3 := r2.below b3
      have q3 := q2.below b3
      have B3 := below_next B2 b3
      clear d0 d1 r2 q2 b3 HC B2
      have c0 := r3.c0
      have d0 := q3.c0
      have d1 := q3.c1
      by_cases he : N = (n : Int)
      · subst he
        obtain rfl : l = (n + 63) / 64 := by have := HVS.out.2.2.1; simpa using this
        have hnn : ((n : Int) == (n : Int)) = true := by simp
        obtain ⟨va, hva⟩ : ∃ va : Bool, va = true ↔ ∀ i, i < n → bt s i = true → grt n (mat R) s i = false := ⟨@decide _ (Classical.propDecidable _), @decide_eq_true_iff _ (Classical.propDecidable _)⟩
        obtain rfl : v = va := bool_ext ⟨fun h => hva.2 (HVV.out.1 h).2.2.2, fun h => HVV.out.2 ⟨HP.out, rfl, HVS.out, hva.1 h⟩⟩
        have hM0 : Calls Tryd.prog 43 #[.agg #[.int .i64 n, .slice S ((n + 63) / 64) cs]] w3 (RowOut w3 ((List.range n).filter (bt s))) := wmembers_any n ⟨n, S, (n + 63) / 64, cs, s⟩ w3 (HS.out.below B3) ⟨rfl, HVS.out⟩ (hT.below B3)
        have HM := Lib.hid hM0
        have HLE : Hid (((List.range n).filter (bt s)).length ≤ 1000000) := Lib.hid (Nat.le_trans (List.length_filter_le _ _) (by rw [List.length_range]; omega))
        have HAL := Lib.hid (anti_list hva)
        have HCL : Hid (∀ k, k < ((List.range n).filter (bt s)).length → ∀ u, Below w3.heap.size w3 u → Calls Tryd.prog 44 #[.int .i64 (((List.range n).filter (bt s)).getD k 0 : Nat), .pointer (some ⟨w.heap.size, 0, none⟩), .pointer (some ⟨w.heap.size + 1, 0, none⟩)] u fun e w' => e = .returned (.bool (grt n (mat R) s (((List.range n).filter (bt s)).getD k 0))) ∧ Below u.heap.size u w') := Lib.hid fun k hk u hu =>
          anti1_any w.heap.size (w.heap.size + 1) n c _ cs A S R s u (HH.out.below (below_next B3 hu)) HP.out.1 (HS.out.below (below_next B3 hu)) HVS.out (r3.below hu) (q3.below hu) (by
            have hm := List.getElem_mem hk
            rw [List.getD_eq_getElem?_getD, List.getElem?_eq_getElem hk, Option.getD_some]
            exact List.mem_range.1 (List.mem_filter.1 hm).1)
        clear hM0 hva
        generalize (List.range n).filter (bt s) = L at *
        unfold RowOut at HM
        go_wp2_with fail
        refine HM.out.mono ?_; rintro e w4 ⟨vL, rfl, hown, b4⟩
        obtain ⟨AL, cL, rfl, hI, _⟩ := own_ints hown
        have HI := Lib.hid hI
        clear hown hI
        go_wp2_with fail
        refine (contains_anti AL L.length cL w.heap.size (w.heap.size + 1) (fun k => L.getD k 0) (fun k => grt n (mat R) s (L.getD k 0)) (!v) w4 HI.out HLE.out (fun k hk u hu => HCL.out k hk u (below_next b4 hu)) HAL.out).mono ?_; rintro e w5 ⟨rfl, b5⟩
        go_wp2_with fail
        go_ret
        exact ⟨rfl, below_next (below_next B3 b4) b5⟩
      · have hnn : (N == (n : Int)) = false := beq_false_of_ne he
        obtain rfl : v = false := by
          cases hc : v with
          | false => rfl
          | true => exact absurd (HVV.out.1 hc).2.1 he
        go_wp2_with fail
        go_ret
        exact ⟨rfl, B3⟩
    · have HC := Lib.hid (valid_no N S l cs s w2 (HS.out.below B2) hs)
      obtain rfl : v = false := by
        cases hc : v with
        | false => rfl
        | true => exact absurd (HVV.out.1 hc).2.2.1 hs
      clear hs
      go_wp2_with fail
      refine HC.out.mono ?_; rintro e w3 ⟨rfl, b3⟩
      go_wp2_with fail
      go_ret
      exact ⟨rfl, below_next B2 b3⟩
end Go.Proofs.YtngpfondnampjaaDoor
