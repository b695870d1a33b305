/- Merged: WAch, KMt, WAcM, WEnM, WRst, WThM, WPtM, RPrL, LWt. -/
import Derived.Test.YtngpfondnampjaaDoorWWid
import Derived.Test.YtngpfondnampjaaDoorMTop
import Derived.Test.YtngpfondnampjaaDoorRMkP
import Derived.Test.YtngpfondnampjaaDoorMSet
import Derived.Test.YtngpfondnampjaaDoorWPrs
import Derived.Test.YtngpfondnampjaaDoorPVal
import Derived.Lib.QuietBelow
import Derived.StillTailTactics
import Derived.BigQuiet
import Derived.BigRegion
import Derived.Deep.CutRange
import Derived.Deep.RegionLaw
import Derived.Test.YtngpfondnampjaaDoorRVd7
import Derived.Test.YtngpfondnampjaaDoorWAwk
/- Package width: Antichain. -/
namespace Go.Proofs.YtngpfondnampjaaDoor
open Go.RowKit Go.Sort
/- the cover's numbers, as words -/
def cvW (n : Nat) (T : Nat → Nat → Bool) : Nat → Nat :=
  comb orW (setF (tl (mleft n n (pairsL T n n).length (zpair (pairsL T n n))) false n)) (setF (tl (mseen n n (pairsL T n n).length (zpair (pairsL T n n))) true n))
/- the numbers outside of the cover -/
def aL (n : Nat) (T : Nat → Nat → Bool) (K : Nat) : List Nat := tl (bt (cvW n T)) false K
def WAEnd (w : World) (n : Nat) (R : Nat → RowD) (e : Ending) (w' : World) : Prop :=
  ((POrd n R ∧ (pairsL (mat R) n n).length ≤ 2000 ∧ ∃ g, e = .returned (.tuple #[.agg #[.int .i64 n, .slice (some ⟨g, 0, none⟩) ((n + 63) / 64) ((n + 63) / 64)], .int .i64 0]) ∧ w.heap.size ≤ g ∧ w'.rowIs g 60 ((n + 63) / 64) (fun k => .int .u64 (setF (aL n (mat R) n) k : Nat))) ∨
  (POrd n R ∧ 2000 < (pairsL (mat R) n n).length ∧ e = .returned (.tuple #[.agg #[.int .i64 0, .slice none 0 0], .int .i64 9])) ∨
  (¬ POrd n R ∧ e = .returned (.tuple #[.agg #[.int .i64 0, .slice none 0 0], .int .i64 1]))) ∧ Below w.heap.size w w'
theorem vld_or7 {N : Int} {m : Nat} {f g : Nat → Nat} (hf : Vld N m f) (hg : Vld N m g) : Vld N m (comb orW f g) :=
  ⟨hf.1, hf.2.1, hf.2.2.1, fun i h1 h2 => by
    have e : bt (comb orW f g) i = (bt f i || bt g i) := by unfold bt comb orW; exact Nat.testBit_or _ _ _
    rw [e, hf.2.2.2 i h1 h2, hg.2.2.2 i h1 h2]; rfl⟩
theorem u64_or7 {m : Nat} {f g : Nat → Nat} (hf : U64 f m) (hg : U64 g m) : U64 (comb orW f g) m := fun k hk => Nat.or_lt_two_pow (n := 64) (hf k hk) (hg k hk)
set_option maxRecDepth 100000 in
set_option maxHeartbeats 4000000 in
theorem antichain_any (A : Option Addr) (n c : Nat) (R : Nat → RowD) (w : World) (h : Rel w A n R) (hn1 : n ≤ 1000000) (hT : Tab w) :
    Calls Tryd.prog 23 #[.agg #[.slice A n c]] w (WAEnd w n R) := by
  have HH := Lib.hid h; clear h
  have r0 := (relAt_new w A n c).alloc (.cells #[.int .i64 0, .slice none 0 0] 28)
  have q0 := setAt_new (w.alloc (.cells #[.slice A n c] 24)) 0 none 0 0
  have hz : (w.alloc (.cells #[.slice A n c] 24)).heap.size = w.heap.size + 1 := by simp
  rw [hz] at q0
  have b0 : Below w.heap.size w ((w.alloc (.cells #[.slice A n c] 24)).alloc (.cells #[.int .i64 0, .slice none 0 0] 28)) := ((Below.refl _ _).alloc (Nat.le_refl _) _).alloc (by simp) _
  have c0 := r0.c0
  have HPR := Lib.hid (wpairs_any A n c R ((w.alloc (.cells #[.slice A n c] 24)).alloc (.cells #[.int .i64 0, .slice none 0 0] 28)) (HH.out.below b0) hn1 (hT.below b0))
  unfold WPrEnd at HPR
  clear hz
  go_enter Tryd.func23, Tryd.ntmps23
  go_upto_region 1 with fail
  generalize (w.alloc (.cells #[.slice A n c] 24)).alloc (.cells #[.int .i64 0, .slice none 0 0] 28) = W at *
  go_wp2_with fail
  refine HPR.out.mono ?_; rintro e w2 (⟨hP, hle, v, rfl, hown, b2⟩ | ⟨hP, hgt2, rfl, b2⟩ | ⟨hP, rfl, b2⟩)
  · have r2 := r0.below b2
    have q2 := q0.below b2
    have B2 := below_next b0 b2
    have HP := Lib.hid hP
    have HLE := Lib.hid hle
    have hn := hP.1.1
    obtain ⟨Av, cv, rfl, hPr⟩ := own_prs hown
    have HCV := Lib.hid (cover_ok n n _ cv Av _ w2 hPr (vg_pairs hP.1.1 hle))
    have hcw : Hid (cvW n (mat R) = comb orW (setF (tl (mleft n n (pairsL (mat R) n n).length (zpair (pairsL (mat R) n n))) false n)) (setF (tl (mseen n n (pairsL (mat R) n n).length (zpair (pairsL (mat R) n n))) true n))) := Lib.hid rfl
    unfold CovOk NewSet at HCV
    clear hown hP hle c0 r0 b0 b2 HPR hPr q0
    have c0 := r2.c0
    have hX1 := Lib.hid (setF_vld (l := tl (mleft n n (pairsL (mat R) n n).length (zpair (pairsL (mat R) n n))) false n) hn (fun x hx => (tl_mem.1 hx).1))
    have hY1 := Lib.hid (setF_vld (l := tl (mseen n n (pairsL (mat R) n n).length (zpair (pairsL (mat R) n n))) true n) hn (fun x hx => (tl_mem.1 hx).1))
    have hX2 := Lib.hid (setF_u64 (tl (mleft n n (pairsL (mat R) n n).length (zpair (pairsL (mat R) n n))) false n) ((n + 63) / 64))
    have hY2 := Lib.hid (setF_u64 (tl (mseen n n (pairsL (mat R) n n).length (zpair (pairsL (mat R) n n))) true n) ((n + 63) / 64))
    generalize setF (tl (mleft n n (pairsL (mat R) n n).length (zpair (pairsL (mat R) n n))) false n) = fX at *
    generalize setF (tl (mseen n n (pairsL (mat R) n n).length (zpair (pairsL (mat R) n n))) true n) = fY at *
    obtain ⟨pq, hpq⟩ : ∃ q, (pairsL (mat R) n n).length = q := ⟨_, rfl⟩
    rw [hpq] at HCV ⊢
    obtain ⟨mw, hmw⟩ : ∃ q, (n + 63) / 64 = q := ⟨_, rfl⟩
    rw [hmw] at HCV hX1 hY1 hX2 hY2
    have HMW := Lib.hid hmw
    have HPQ := Lib.hid hpq
    clear hpq hmw
    go_wp2_with fail
    refine HCV.out.mono ?_; rintro e w3 ⟨gX, gY, rfl, ⟨hgX, hrX⟩, ⟨hgY, hrY⟩, b3⟩
    have r3 := r2.below b3
    have q3 := q2.below b3
    have B3 := below_next B2 b3
    clear r2 q2 B2 b3 HCV c0
    have rX := (setAt_new w3 n (some ⟨gX, 0, none⟩) mw mw).alloc (.cells #[.int .i64 n, .slice (some ⟨gY, 0, none⟩) mw mw] 28)
    have rY := setAt_new (w3.alloc (.cells #[.int .i64 n, .slice (some ⟨gX, 0, none⟩) mw mw] 28)) n (some ⟨gY, 0, none⟩) mw mw
    have bX := below_new w3 (.cells #[.int .i64 n, .slice (some ⟨gX, 0, none⟩) mw mw] 28)
    have bY := below_new (w3.alloc (.cells #[.int .i64 n, .slice (some ⟨gX, 0, none⟩) mw mw] 28)) (.cells #[.int .i64 n, .slice (some ⟨gY, 0, none⟩) mw mw] 28)
    have z3 : (w3.alloc (.cells #[.int .i64 n, .slice (some ⟨gX, 0, none⟩) mw mw] 28)).heap.size = w3.heap.size + 1 := by simp
    rw [z3] at rY
    have bXY := below_next bX bY
    have q4 := q3.below bXY
    have B4 := below_next B3 bXY
    have HU := Lib.hid (unionB_any n (some ⟨gX, 0, none⟩) (some ⟨gY, 0, none⟩) mw mw mw fX fY _ ((row_wds hrX hX2.out).below bXY) ((row_wds hrY hY2.out).below bXY) hX1.out hY1.out)
    rw [← hcw.out] at HU
    unfold SetOk at HU
    clear r3 q3 B3 hgX hrX hgY hrY bX bY z3 bXY
    go_upto_region 6 with fail
    generalize (w3.alloc (.cells #[.int .i64 n, .slice (some ⟨gX, 0, none⟩) mw mw] 28)).alloc (.cells #[.int .i64 n, .slice (some ⟨gY, 0, none⟩) mw mw] 28) = w4 at *
    generalize w3.heap.size = pX at *
    have x0 := rX.c0
    have x1 := rX.c1
    have y0 := rY.c0
    have y1 := rY.c1
    go_wp2_with fail
    refine HU.out.mono ?_; rintro e w5 ⟨gU, rfl, hgU, hrU, b5⟩
    have rU := setAt_new w5 n (some ⟨gU, 0, none⟩) mw mw
    have bU := below_new w5 (.cells #[.int .i64 n, .slice (some ⟨gU, 0, none⟩) mw mw] 28)
    have hUF : U64 (cvW n (mat R)) mw := by rw [hcw.out]; exact u64_or7 hX2.out hY2.out
    have hUV := Lib.hid (vld_or7 hX1.out hY1.out)
    rw [← hcw.out] at hUV
    have HWU := Lib.hid ((row_wds hrU hUF).below bU)
    have q5 := (q4.below b5).below bU
    have B5 := below_next (below_next B4 b5) bU
    clear x0 x1 y0 y1 HU rX rY q4 B4 b5 bU hgU hrU hUF hX1 hY1 hX2 hY2
    go_upto_region 7 with fail
    generalize w5.heap.size = pU at *
    generalize w5.alloc (.cells #[.int .i64 n, .slice (some ⟨gU, 0, none⟩) mw mw] 28) = w6 at *
    go_wp2_with fail
    go_loopw [12, 41] (fun x i wr => ∃ (K : Nat) (v : Value), K ≤ n ∧ i = .int .i64 K ∧ v = x ∧ wr.ownsRow w6.heap.size 3 1 v (aL n (mat R) K).length (vals (aL n (mat R) K)) ∧ Below w6.heap.size w6 wr) (fun _ i _ => n - (intOf i).toNat)
    case atStart => exact ⟨0, _, Nat.zero_le _, rfl, rfl, World.ownsRow_nil _ _ _ _, Below.refl _ _⟩
    case round =>
      obtain ⟨K, pv, hK, rfl, rfl, hown, hB⟩ := hrel
      have hll : (aL n (mat R) K).length ≤ K := tl_len _ _ _
      by_cases hlt : K < n
      · have u0 := (rU.below hB).c0
        have u1 := (rU.below hB).c1
        have hwrap : IntKind.i64.wrap ((K : Int) + 1) = (K : Int) + 1 := IntWalk.i64_in _ (by omega)
        obtain ⟨v1, hv1⟩ : ∃ v, bt (cvW n (mat R)) K = v := ⟨_, rfl⟩
        have HC := Lib.hid (has_in n K (some ⟨gU, 0, none⟩) mw mw (cvW n (mat R)) v1 wr (HWU.out.below hB) hUV.out hlt hv1)
        have hst1 : Hid (v1 = false → aL n (mat R) (K + 1) = aL n (mat R) K ++ [K]) := Lib.hid fun h => tl_yes (hv1.trans h)
        have hst0 : Hid (v1 = true → aL n (mat R) (K + 1) = aL n (mat R) K) := Lib.hid fun h => tl_no (by rw [hv1, h]; decide)
        clear hv1
        generalize aL n (mat R) K = L at *
        go_wp2_with fail
        refine HC.out.mono ?_; rintro e w7 ⟨rfl, b7⟩
        have hown7 := own_below hown b7
        have B7 := below_next hB b7
        clear u0 u1 HC hown hB b7
        cases v1 with
        | true =>
          have hst := hst0.out (by first | rfl | exact trivial)
          go_wp2_with fail
          go_roundw
          case rel => exact ⟨K + 1, pv, hlt, by go_num, rfl, by rw [hst]; exact hown7, B7⟩
          case measure => simp [intOf]; omega
        | false =>
          have hst := Lib.hid (hst1.out (by first | rfl | exact trivial))
          have bl := below_new w7 (.cells #[.int .i64 (K : Int)] 3)
          have hownA := own_below hown7 bl
          have BA := below_next B7 bl
          have hbs := BA.size
          clear hown7 B7 bl
          go_wp2_with (at_builtin; refine append_nat rfl (.tmp 48) (.tmp 50) rfl w6.heap.size _ L K K _ rfl hownA w7.heap.size rfl (heap_alloc_new _ _) rfl (by omega) hbs ?_; intro g9 c9 w9 hown9 hg9 hat9)
          have B9 := grown_below2 BA hownA (Nat.le_refl _) hg9
          go_roundw
          case rel => exact ⟨K + 1, _, hlt, by go_num, rfl, by rw [hst.out, List.length_append]; exact hown9, B9⟩
          case measure => simp [intOf]; omega
      · obtain rfl : K = n := by omega
        have HO := Lib.hid (of_list K pv w6.heap.size (aL K (mat R) K) wr hn hown (by omega) (fun x hx => (tl_mem.1 hx).1))
        unfold SetOk at HO
        have q7 := q5.below hB
        have B7 := below_next B5 hB
        rw [HMW.out] at HO
        obtain ⟨AL, cL, rfl, _, _⟩ := own_ints hown
        clear hown hll
        generalize hL : aL K (mat R) K = L at *
        have HAL := Lib.hid hL
        clear hL
        generalize L.length = q at *
        go_wp2_with fail
        refine HO.out.mono ?_; rintro e w8 ⟨g, rfl, hg, hrow, b8⟩
        have q8 := q7.below b8
        have B8 := below_next B7 b8
        have k0 := q8.c0
        have k1 := q8.c1
        have f0 := q8.free 0
        have f1 := q8.free 1
        have s5 := setAt_put (N' := (K : Int)) (A' := some ⟨g, 0, none⟩) (l' := mw) (c' := mw) q8
        have j0 := s5.c0
        have j1 := s5.c1
        have hq8 := q7.lt
        have hgne : g ≠ w.heap.size + 1 := by omega
        have hgw : w.heap.size ≤ g := by omega
        have HROW := Lib.hid ((hrow.setOther (a := ⟨w.heap.size + 1, 0, none⟩) (by exact hgne) (.int .i64 (K : Int))).setOther (a := ⟨w.heap.size + 1, 1, none⟩) (by exact hgne) (.slice (some ⟨g, 0, none⟩) mw mw))
        have B9 := Lib.hid ((B8.setCell (p := ⟨w.heap.size + 1, 0, none⟩) (by show w.heap.size ≤ w.heap.size + 1; omega) (.int .i64 (K : Int))).setCell (p := ⟨w.heap.size + 1, 1, none⟩) (by show w.heap.size ≤ w.heap.size + 1; omega) (.slice (some ⟨g, 0, none⟩) mw mw))
        clear q7 q8 s5 hrow HO B7 B8 b8 hB
        go_wp2_with fail
        refine bodyPost_ret (v := .tuple #[.agg #[.int .i64 K, .slice (some ⟨g, 0, none⟩) mw mw], .int .i64 0]) (by simp [results, Tryd.results23, go_sem, j0, j1]) rfl ?_
        exact ⟨.inl ⟨HP.out, by first | exact HLE.out | (rw [← HPQ.out]; exact HLE.out), g, by rw [HMW.out], hgw, by rw [HMW.out, HAL.out]; exact HROW.out⟩, B9.out⟩
  · have B2 := below_next b0 b2
    have q2 := q0.below b2
    have HG := Lib.hid hgt2
    have HP := Lib.hid hP
    have k0 := q2.c0
    have k1 := q2.c1
    have f0 := q2.free 0
    have f1 := q2.free 1
    have s5 := setAt_put (N' := 0) (A' := none) (l' := 0) (c' := 0) q2
    have j0 := s5.c0
    have j1 := s5.c1
    have B5 := Lib.hid ((B2.setCell (p := ⟨w.heap.size + 1, 0, none⟩) (by show w.heap.size ≤ w.heap.size + 1; omega) (.int .i64 0)).setCell (p := ⟨w.heap.size + 1, 1, none⟩) (by show w.heap.size ≤ w.heap.size + 1; omega) (.slice none 0 0))
    clear hP hgt2 B2 q2 s5
    go_wp2_with fail
    refine bodyPost_ret (v := .tuple #[.agg #[.int .i64 0, .slice none 0 0], .int .i64 9]) (by simp [results, Tryd.results23, go_sem, j0, j1]) rfl ?_
    exact ⟨.inr (.inl ⟨HP.out, HG.out, rfl⟩), B5.out⟩
  · have B2 := below_next b0 b2
    have q2 := q0.below b2
    have HP := Lib.hid hP
    have k0 := q2.c0
    have k1 := q2.c1
    have f0 := q2.free 0
    have f1 := q2.free 1
    have s5 := setAt_put (N' := 0) (A' := none) (l' := 0) (c' := 0) q2
    have j0 := s5.c0
    have j1 := s5.c1
    have B5 := Lib.hid ((B2.setCell (p := ⟨w.heap.size + 1, 0, none⟩) (by show w.heap.size ≤ w.heap.size + 1; omega) (.int .i64 0)).setCell (p := ⟨w.heap.size + 1, 1, none⟩) (by show w.heap.size ≤ w.heap.size + 1; omega) (.slice none 0 0))
    clear hP B2 q2 s5
    go_wp2_with fail
    refine bodyPost_ret (v := .tuple #[.agg #[.int .i64 0, .slice none 0 0], .int .i64 1]) (by simp [results, Tryd.results23, go_sem, j0, j1]) rfl ?_
    exact ⟨.inr (.inr ⟨HP.out, rfl⟩), B5.out⟩
end Go.Proofs.YtngpfondnampjaaDoor
/- The theorem of Koenig, as mathematics (from layer 5). -/
namespace Go.Proofs.YtngpfondnampjaaDoor
open Go.RowKit
def bcnt (f : Nat → Nat) : Nat → Nat
  | 0 => 0
  | K + 1 => bcnt f K + (if bt f K = true then 1 else 0)
def cntT (T : Nat → Bool) : Nat → Nat
  | 0 => 0
  | K + 1 => cntT T K + (if T K = true then 1 else 0)
theorem cntT_mark {s : Nat → Bool} {b : Nat} (h : s b = false) : ∀ {m}, b < m → cntT (mark s b) m = cntT s m + 1
  | 0, hb => absurd hb (Nat.not_lt_zero _)
  | m + 1, hb => by
    show cntT (mark s b) m + _ = cntT s m + _ + 1
    by_cases e : b = m
    · subst e
      rw [if_pos (mark_same s b), if_neg (by rw [h]; exact Bool.false_ne_true)]
      have : ∀ j, j ≤ b → cntT (mark s b) j = cntT s j := by
        intro j
        induction j with
        | zero => intro _; rfl
        | succ j ih =>
          intro hj
          show cntT (mark s b) j + _ = cntT s j + _
          rw [ih (by omega)]
          have : mark s b j = s j := by unfold mark; rw [if_neg (by omega)]
          rw [this]
      rw [this b (Nat.le_refl _)]
    · have ih := cntT_mark h (m := m) (by omega)
      have : mark s b m = s m := by unfold mark; rw [if_neg (by omega)]
      rw [this]; omega
theorem cntT_none : ∀ m, cntT (fun _ => false) m = 0
  | 0 => rfl
  | m + 1 => by show cntT _ m + _ = 0; rw [cntT_none m]; rfl
def sm (f : Nat → Nat) : Nat → Nat
  | 0 => 0
  | K + 1 => sm f K + f K
theorem sm_congr {f g : Nat → Nat} : ∀ {n}, (∀ i, i < n → f i = g i) → sm f n = sm g n
  | 0, _ => rfl
  | n + 1, h => by show sm f n + _ = sm g n + _; rw [sm_congr (n := n) (fun i hi => h i (by omega)), h n (Nat.lt_succ_self n)]
theorem sm_add (f g : Nat → Nat) : ∀ n, sm (fun i => f i + g i) n = sm f n + sm g n
  | 0 => rfl
  | n + 1 => by show sm (fun i => f i + g i) n + (f n + g n) = sm f n + f n + (sm g n + g n); rw [sm_add f g n]; omega
theorem sm_zero : ∀ n, sm (fun _ => 0) n = 0
  | 0 => rfl
  | n + 1 => by show sm _ n + 0 = 0; rw [sm_zero n]
theorem sm_swap (f : Nat → Nat → Nat) (m : Nat) : ∀ n, sm (fun a => sm (fun b => f a b) m) n = sm (fun b => sm (fun a => f a b) n) m
  | 0 => (sm_zero m).symm
  | n + 1 => by
    show sm _ n + sm (fun b => f n b) m = _
    rw [sm_swap f m n, ← sm_add]; rfl
theorem sm_one {f : Nat → Nat} {b0 : Nat} : ∀ {m}, b0 < m → (∀ b, b < m → b ≠ b0 → f b = 0) → sm f m = f b0
  | 0, h, _ => absurd h (Nat.not_lt_zero _)
  | m + 1, h, hz => by
    show sm f m + f m = f b0
    by_cases e : b0 = m
    · subst e
      rw [sm_congr (g := fun _ => 0) (fun i hi => hz i (by omega) (by omega)), sm_zero]; omega
    · rw [sm_one (m := m) (by omega) (fun b hb hne => hz b (by omega) hne), hz m (Nat.lt_succ_self m) (fun h => e h.symm)]; omega
theorem cntT_sm (T : Nat → Bool) : ∀ n, cntT T n = sm (fun a => if T a = true then 1 else 0) n
  | 0 => rfl
  | n + 1 => by show cntT T n + _ = sm _ n + _; rw [cntT_sm T n]
theorem cntT_mono {S T : Nat → Bool} : ∀ {n}, (∀ i, i < n → S i = true → T i = true) → cntT S n ≤ cntT T n
  | 0, _ => Nat.le_refl _
  | n + 1, h => by
    have ih := cntT_mono (n := n) (fun i hi => h i (by omega))
    show cntT S n + _ ≤ cntT T n + _
    by_cases c : S n = true
    · rw [if_pos c, if_pos (h n (Nat.lt_succ_self n) c)]; omega
    · rw [if_neg c]; split <;> omega
theorem mat_cnt {n m : Nat} {nb : Nat → List Nat} {g : Gr} (h : Mat n m nb g) (P : Nat → Bool) :
    cntT (fun a => P a && !decide (g.L a = -1)) n = cntT (fun b => !decide (g.R b = -1) && P (g.R b).toNat) m := by
  rw [cntT_sm, cntT_sm]
  have e1 : sm (fun a => if (P a && !decide (g.L a = -1)) = true then 1 else 0) n = sm (fun a => sm (fun b => if g.L a = (b : Int) ∧ P a = true then 1 else 0) m) n := sm_congr fun a ha => by
    rcases h.l a ha with hL | ⟨b, hb, hL, _, _⟩
    · rw [if_neg (by rw [hL]; simp), sm_congr (g := fun _ => 0) (fun b _ => if_neg (by rw [hL]; omega)), sm_zero]
    · rw [sm_one hb (fun b' _ hne => if_neg (by rw [hL]; omega))]
      by_cases hP : P a = true
      · rw [if_pos (by rw [hP, hL, decide_eq_false (by omega)]; rfl), if_pos ⟨hL, hP⟩]
      · rw [if_neg (by simp [hP]), if_neg (fun h => hP h.2)]
  rw [e1, sm_swap]
  refine sm_congr fun b hb => ?_
  rcases Mat.r h b hb with hR | ⟨a, ha, hR, hL⟩
  · rw [if_neg (by rw [hR]; simp), sm_congr (g := fun _ => 0) (fun a ha => if_neg (fun hc => ?_)), sm_zero]
    rcases h.l a ha with h1 | ⟨b', _, h1, _, h2⟩
    · rw [h1] at hc; omega
    · have : b' = b := by omega
      subst this; omega
  · rw [sm_one ha (fun a' ha' hne => if_neg (fun hc => ?_))]
    · by_cases hP : P a = true
      · rw [if_pos ⟨hL, hP⟩, if_pos (by rw [hR, decide_eq_false (by omega), show ((a : Int)).toNat = a from rfl, hP]; rfl)]
      · rw [if_neg (fun h => hP h.2), if_neg (by rw [hR, show ((a : Int)).toNat = a from rfl]; simp [hP])]
    · rcases h.l a' ha' with h1 | ⟨b', _, h1, _, h2⟩
      · rw [h1] at hc; omega
      · have : b' = b := by omega
        subst this; omega
theorem cntT_split (P Q : Nat → Bool) : ∀ n, cntT P n = cntT (fun a => P a && Q a) n + cntT (fun a => P a && !Q a) n
  | 0 => rfl
  | n + 1 => by
    have ih := cntT_split P Q n
    show cntT P n + _ = cntT _ n + _ + (cntT _ n + _)
    cases hP : P n <;> cases hQ : Q n <;> simp [hP, hQ] <;> omega
theorem cntT_full {S T : Nat → Bool} : ∀ {n}, (∀ i, i < n → S i = true → T i = true) → cntT T n ≤ cntT S n → ∀ i, i < n → T i = true → S i = true
  | 0, _, _, _, hi, _ => absurd hi (Nat.not_lt_zero _)
  | n + 1, h, hc, i, hi, hT => by
    have m0 := cntT_mono (n := n) (fun i hi => h i (by omega))
    have hc' : cntT T n + (if T n = true then 1 else 0) ≤ cntT S n + (if S n = true then 1 else 0) := hc
    by_cases e : i = n
    · subst e
      by_cases hS : S i = true
      · exact hS
      · rw [if_pos hT, if_neg hS] at hc'; omega
    · refine cntT_full (n := n) (fun i hi => h i (by omega)) ?_ i (by omega) hT
      by_cases hS : S n = true
      · rw [if_pos hS, if_pos (h n (Nat.lt_succ_self n) hS)] at hc'; omega
      · rw [if_neg hS] at hc'; split at hc' <;> omega
def freeB (g : Gr) (a : Nat) : Bool := decide (g.L a = -1)
section
variable {n m : Nat} {nb : Nat → List Nat} {g : Gr}
theorem left_of {L : Nat → Int} {s : Nat → Bool} {a : Nat} : lfR L s a = true ↔ L a = -1 ∨ s (L a).toNat = true := by unfold lfR; simp
theorem left_part (h : Mat n m nb g) (s : Nat → Bool) {b a : Nat} (hb : b < m) (ha : a < n) (hR : g.R b = (a : Int)) : lfR g.L s a = s b := by
  rcases Mat.r h b hb with h1 | ⟨a', _, h1, h2⟩
  · rw [hR] at h1; omega
  · have e : a' = a := by omega
    subst e
    unfold lfR
    rw [h2, decide_eq_false (by omega)]; rfl
theorem near_left (h : Mat n m nb g) (hI : RsI n m nb g n) (b : Nat) : (rS nb m g n).seen b = true ↔ ∃ a, a < n ∧ lfR g.L (rS nb m g n).seen a = true ∧ b ∈ nb a := by
  have fwd : ∀ b, (∃ a, a < n ∧ lfR g.L (rS nb m g n).seen a = true ∧ b ∈ nb a) → (rS nb m g n).seen b = true := by
    rintro b ⟨a, ha, hl, hb⟩
    rcases left_of.1 hl with hL | hs
    · exact hI.all a ha hL b hb
    · rcases h.l a ha with hL | ⟨b', hb', hL, _, hR⟩
      · exact hI.all a ha hL b hb
      · rw [hL, show ((b' : Int)).toNat = b' from rfl] at hs
        have := (hI.cl b' hs).2.2
        rw [hR, show ((a : Int)).toNat = a from rfl] at this
        exact this b hb
  refine ⟨fun hs => ?_, fwd b⟩
  refine hI.least (fun b => ∃ a, a < n ∧ lfR g.L (rS nb m g n).seen a = true ∧ b ∈ nb a) (fun b hb => ?_) (fun a ha hL b hb => ⟨a, ha, left_of.2 (.inl hL), hb⟩) b hs
  have hsb := fwd b hb
  obtain ⟨h1, h2, h3⟩ := hI.cl b hsb
  refine ⟨h1, h2, fun c hc => ?_⟩
  obtain ⟨a, ha, hR, hL⟩ := (Mat.r h b h1).resolve_left h2
  rw [hR, show ((a : Int)).toNat = a from rfl] at hc
  exact ⟨a, ha, by rw [left_part h _ h1 ha hR]; exact hsb, hc⟩
theorem cnt_left (h : Mat n m nb g) (hI : RsI n m nb g n) : cntT (lfR g.L (rS nb m g n).seen) n = cntT (freeB g) n + cntT (rS nb m g n).seen m := by
  have hs := cntT_split (lfR g.L (rS nb m g n).seen) (freeB g) n
  have e : cntT (fun a => lfR g.L (rS nb m g n).seen a && !freeB g a) n = _ := mat_cnt h _
  rw [e] at hs
  have c1 : cntT (fun a => lfR g.L (rS nb m g n).seen a && freeB g a) n = cntT (freeB g) n := by
    refine Nat.le_antisymm (cntT_mono fun a _ hx => by simp at hx; exact hx.2) (cntT_mono fun a _ hx => ?_)
    have hL : g.L a = -1 := by unfold freeB at hx; simpa using hx
    show (_ && _) = true
    rw [hx, left_of.2 (.inl hL)]; rfl
  have c2 : cntT (fun b => !decide (g.R b = -1) && lfR g.L (rS nb m g n).seen (g.R b).toNat) m = cntT (rS nb m g n).seen m := by
    refine Nat.le_antisymm (cntT_mono fun b hb hx => ?_) (cntT_mono fun b hb hx => ?_)
    · rcases Mat.r h b hb with hR | ⟨a, ha, hR, hL⟩
      · rw [hR] at hx; simp at hx
      · rw [hR, show ((a : Int)).toNat = a from rfl, left_part h _ hb ha hR] at hx
        simp at hx; first | exact hx.2 | exact hx
    · obtain ⟨h1, h2, _⟩ := hI.cl b hx
      obtain ⟨a, ha, hR, hL⟩ := (Mat.r h b hb).resolve_left h2
      show (_ && _) = true
      rw [hR, show ((a : Int)).toNat = a from rfl, left_part h _ hb ha hR, hx, decide_eq_false (by omega)]; rfl
  omega
end
theorem prl_cnt (L : Nat → Int) : ∀ n, (prl L n).length + cntT (fun a => decide (L a = -1)) n = n
  | 0 => rfl
  | n + 1 => by
    have ih := prl_cnt L n
    show (prl L n ++ _).length + (cntT _ n + _) = n + 1
    rw [List.length_append]
    by_cases h : L n = -1
    · rw [if_pos h, if_pos (decide_eq_true h)]; simp; omega
    · rw [if_neg h, if_neg (by simp [h])]; simp; omega
theorem cntT_congr {S T : Nat → Bool} {n : Nat} (h : ∀ i, i < n → S i = T i) : cntT S n = cntT T n :=
  Nat.le_antisymm (cntT_mono fun i hi hs => by rw [← h i hi]; exact hs) (cntT_mono fun i hi hs => by rw [h i hi]; exact hs)
def MatP (E : Nat → Int × Int) (k : Nat) (Z : Nat → Int × Int) (p : Nat) : Prop := (∀ i, i < p → ∃ e, e < k ∧ E e = Z i) ∧ ∀ i j, i < j → j < p → (Z i).1 ≠ (Z j).1 ∧ (Z i).2 ≠ (Z j).2
section
variable {n m k : Nat} {E Z : Nat → Int × Int}
theorem MatP.in_ (hv : VG n m k E) {p i : Nat} (h : MatP E k Z p) (hi : i < p) : InE n m (Z i) := by
  obtain ⟨e, he, h2⟩ := h.1 i hi
  rw [← h2]; exact hv.ran e he
end
def Cov (E : Nat → Int × Int) (f g : Nat → Nat) (K : Nat) : Prop := ∀ i, i < K → bt f (E i).1.toNat = true ∨ bt g (E i).2.toNat = true
theorem bcnt_cntT (f : Nat → Nat) : ∀ n, bcnt f n = cntT (bt f) n
  | 0 => rfl
  | n + 1 => by show bcnt f n + _ = cntT _ n + _; rw [bcnt_cntT f n]
theorem nbs_iff {n m k : Nat} {E : Nat → Int × Int} (hv : VG n m k E) (a b : Nat) : ∀ K, K ≤ k → (b ∈ nbs E K a ↔ ∃ i, i < K ∧ E i = ((a : Int), (b : Int)))
  | 0, _ => ⟨(fun h => by cases h), (fun ⟨_, h, _⟩ => absurd h (Nat.not_lt_zero _))⟩
  | K + 1, hK => by
    have ih := nbs_iff hv a b K (by omega)
    obtain ⟨⟨h1, h2⟩, h3, h4⟩ := hv.ran K hK
    have hE : E K = ((((E K).1.toNat : Nat) : Int), (((E K).2.toNat : Nat) : Int)) := Prod.ext (by show (E K).1 = _; omega) (by show (E K).2 = _; omega)
    rw [nbs_step hE]
    constructor
    · intro h
      unfold setL at h
      split at h
      · rename_i he
        rcases List.mem_append.1 h with h | h
        · rw [← he] at h
          obtain ⟨i, hi, e⟩ := ih.1 h
          exact ⟨i, by omega, e⟩
        · have hb : b = (E K).2.toNat := by simpa using h
          exact ⟨K, Nat.lt_succ_self K, by rw [he, hb]; exact hE⟩
      · obtain ⟨i, hi, e⟩ := ih.1 h
        exact ⟨i, by omega, e⟩
    · rintro ⟨i, hi, e⟩
      by_cases hiK : i = K
      · subst hiK
        have e1 : (E i).1.toNat = a := by rw [e]; rfl
        have e2 : (E i).2.toNat = b := by rw [e]; rfl
        rw [e1, e2, setL_same]; simp
      · have := ih.2 ⟨i, by omega, e⟩
        unfold setL
        split
        · rename_i he; rw [← he]; exact List.mem_append_left _ this
        · exact this
theorem inj_cnt {φ : Nat → Nat} {P : Nat → Bool} {n : Nat} : ∀ {p : Nat} {T : Nat → Bool}, (∀ i j, i < j → j < p → P i = true → P j = true → φ i ≠ φ j) → (∀ i, i < p → P i = true → φ i < n ∧ T (φ i) = true) → cntT P p ≤ cntT T n
  | 0, _, _, _ => Nat.zero_le _
  | p + 1, T, hi, ht => by
    show cntT P p + _ ≤ _
    by_cases c : P p = true
    · rw [if_pos c]
      obtain ⟨h1, h2⟩ := ht p (Nat.lt_succ_self p) c
      have hs : (fun b => if b = φ p then false else T b) (φ p) = false := if_pos rfl
      have hm := cntT_mark (s := fun b => if b = φ p then false else T b) hs h1
      have e : mark (fun b => if b = φ p then false else T b) (φ p) = T := funext fun b => by
        unfold mark
        by_cases hb : b = φ p
        · rw [if_pos hb, hb, h2]
        · rw [if_neg hb]; exact if_neg hb
      rw [e] at hm
      have ih := inj_cnt (p := p) (T := fun b => if b = φ p then false else T b) (fun i j hij hj => hi i j hij (by omega)) (fun i hip hP => by
        obtain ⟨h3, h4⟩ := ht i (by omega) hP
        refine ⟨h3, ?_⟩
        show (if φ i = φ p then false else T (φ i)) = true
        rw [if_neg (hi i p hip (Nat.lt_succ_self p) hP c)]; exact h4)
      omega
    · rw [if_neg c]
      exact inj_cnt (p := p) (fun i j hij hj => hi i j hij (by omega)) (fun i hip => ht i (by omega))
theorem cntT_or (P Q : Nat → Bool) : ∀ n, (∀ i, i < n → P i = true ∨ Q i = true) → n ≤ cntT P n + cntT (fun i => !P i && Q i) n
  | 0, _ => Nat.zero_le _
  | n + 1, h => by
    have ih := cntT_or P Q n (fun i hi => h i (by omega))
    show n + 1 ≤ cntT P n + (if P n = true then 1 else 0) + (cntT (fun i => !P i && Q i) n + (if (!P n && Q n) = true then 1 else 0))
    by_cases hP : P n = true
    · rw [if_pos hP]; omega
    · have hQ : Q n = true := (h n (Nat.lt_succ_self n)).resolve_left hP
      rw [if_pos (show (!P n && Q n) = true by rw [hQ, Bool.eq_false_iff.2 hP]; rfl)]; omega
theorem prl_get (L : Nat → Int) : ∀ K i, i < (prl L K).length → ∃ a, a < K ∧ L a ≠ -1 ∧ pE (prl L K) i = ((a : Int), L a)
  | 0, _, h => absurd h (Nat.not_lt_zero _)
  | K + 1, i, h => by
    have ih := prl_get L K i
    by_cases hK : L K = -1
    · have e : prl L (K + 1) = prl L K := by show prl L K ++ _ = _; rw [if_pos hK, List.append_nil]
      rw [e] at h ⊢
      obtain ⟨a, h1, h2⟩ := ih h
      exact ⟨a, by omega, h2⟩
    · have e : prl L (K + 1) = prl L K ++ [((K : Int), L K)] := by show prl L K ++ _ = _; rw [if_neg hK]
      rw [e] at h ⊢
      rw [List.length_append, List.length_singleton] at h
      by_cases hi : i < (prl L K).length
      · obtain ⟨a, h1, h2, h3⟩ := ih hi
        refine ⟨a, by omega, h2, ?_⟩
        rw [← h3, pE_get hi, pE_get (by rw [List.length_append, List.length_singleton]; omega), List.getElem_append_left hi]
      · have hi2 : i = (prl L K).length := by omega
        subst hi2
        refine ⟨K, Nat.lt_succ_self K, hK, ?_⟩
        rw [pE_get (by rw [List.length_append, List.length_singleton]; omega)]
        simp
theorem prl_rise (L : Nat → Int) : ∀ K i j, i < j → j < (prl L K).length → (pE (prl L K) i).1 < (pE (prl L K) j).1
  | 0, _, _, _, h => absurd h (Nat.not_lt_zero _)
  | K + 1, i, j, hij, h => by
    have ih := prl_rise L K i j hij
    by_cases hK : L K = -1
    · have e : prl L (K + 1) = prl L K := by show prl L K ++ _ = _; rw [if_pos hK, List.append_nil]
      rw [e] at h ⊢
      exact ih h
    · have e : prl L (K + 1) = prl L K ++ [((K : Int), L K)] := by show prl L K ++ _ = _; rw [if_neg hK]
      have hlen : (prl L K ++ [((K : Int), L K)]).length = (prl L K).length + 1 := by rw [List.length_append, List.length_singleton]
      rw [e] at h ⊢
      by_cases hj : j < (prl L K).length
      · have g1 : ∀ x, x < (prl L K).length → pE (prl L K ++ [((K : Int), L K)]) x = pE (prl L K) x := fun x hx => by rw [pE_get hx, pE_get (by omega), List.getElem_append_left hx]
        rw [g1 i (by omega), g1 j hj]
        exact ih hj
      · have hj2 : j = (prl L K).length := by omega
        subst hj2
        have g1 : pE (prl L K ++ [((K : Int), L K)]) i = pE (prl L K) i := by rw [pE_get hij, pE_get (by omega), List.getElem_append_left hij]
        have g2 : pE (prl L K ++ [((K : Int), L K)]) (prl L K).length = ((K : Int), L K) := by rw [pE_get h]; simp
        have hi : i < (prl L K).length := hij
        rw [g1, g2]
        obtain ⟨a, h1, _, h3⟩ := prl_get L K i hi
        rw [h3]
        show (a : Int) < (K : Int)
        omega
theorem bcnt_tl (T : Nat → Bool) (t : Bool) (n : Nat) : bcnt (setF (tl T t n)) n = cntT (fun i => T i == t) n := by
  rw [bcnt_cntT]
  refine cntT_congr fun i hi => ?_
  refine Bool.eq_iff_iff.2 ?_
  rw [setF_bt, tl_mem, beq_iff_eq]
  exact ⟨fun h => h.2, fun h => ⟨hi, h⟩⟩
theorem cntT_not (T : Nat → Bool) : ∀ n, cntT (fun i => T i == false) n + cntT T n = n
  | 0 => rfl
  | n + 1 => by
    have ih := cntT_not T n
    show cntT (fun i => T i == false) n + (if (T n == false) = true then 1 else 0) + (cntT T n + (if T n = true then 1 else 0)) = n + 1
    by_cases h : T n = true
    · rw [if_pos h, if_neg (by rw [h]; exact Bool.false_ne_true)]; omega
    · rw [if_neg h, if_pos (by rw [Bool.eq_false_iff.2 h]; rfl)]; omega
section
variable {n m k : Nat} {E : Nat → Int × Int} (hv : VG n m k E)
include hv
theorem weak_dual {Z : Nat → Int × Int} {p : Nat} {f g : Nat → Nat} (hM : MatP E k Z p) (hC : Cov E f g k) : p ≤ bcnt f n + bcnt g m := by
  rw [bcnt_cntT, bcnt_cntT]
  have hin : ∀ i, i < p → InE n m (Z i) := fun i hi => hM.in_ hv hi
  have h0 := cntT_or (fun i => bt f (Z i).1.toNat) (fun i => bt g (Z i).2.toNat) p (fun i hi => by
    obtain ⟨e, he, hz⟩ := hM.1 i hi
    have := hC e he
    rw [hz] at this
    exact this)
  have h1 := inj_cnt (φ := fun i => (Z i).1.toNat) (P := fun i => bt f (Z i).1.toNat) (n := n) (p := p) (T := bt f) (fun i j hij hj _ _ e => by
    have a1 := hin i (by omega)
    have a2 := hin j hj
    exact (hM.2 i j hij hj).1 (by have := a1.1.1; have := a2.1.1; have e : (Z i).1.toNat = (Z j).1.toNat := e; omega)) (fun i hi hP => ⟨by have := (hin i hi).1; omega, hP⟩)
  have h2 := inj_cnt (φ := fun i => (Z i).2.toNat) (P := fun i => !bt f (Z i).1.toNat && bt g (Z i).2.toNat) (n := m) (p := p) (T := bt g) (fun i j hij hj _ _ e => by
    have a1 := hin i (by omega)
    have a2 := hin j hj
    exact (hM.2 i j hij hj).2 (by have := a1.2.1; have := a2.2.1; have e : (Z i).2.toNat = (Z j).2.toNat := e; omega)) (fun i hi hP => ⟨by have := (hin i hi).2; omega, by simp at hP; exact hP.2⟩)
  omega
end
section
variable {n m k : Nat} {E : Nat → Int × Int} (hv : VG n m k E)
include hv
variable {g : Gr} (hM : Mat n m (nbs E k) g)
include hM
theorem max_mat : MatP E k (pE (prl g.L n)) (prl g.L n).length := by
  have at_ : ∀ i, i < (prl g.L n).length → ∃ a b : Nat, a < n ∧ b < m ∧ pE (prl g.L n) i = ((a : Int), (b : Int)) ∧ g.R b = (a : Int) ∧ b ∈ nbs E k a := fun i hi => by
    obtain ⟨a, ha, hL, e⟩ := prl_get _ n i hi
    obtain ⟨b, hb, h1, h2, h3⟩ := (hM.l a ha).resolve_left hL
    exact ⟨a, b, ha, hb, by rw [e, h1], h3, h2⟩
  refine ⟨fun i hi => ?_, fun i j hij hj => ⟨?_, ?_⟩⟩
  · obtain ⟨a, b, _, _, e, _, hb⟩ := at_ i hi
    obtain ⟨x, hx, e2⟩ := (nbs_iff hv a b k (Nat.le_refl _)).1 hb
    exact ⟨x, hx, by rw [e, e2]⟩
  · have := prl_rise g.L n i j hij hj
    omega
  · intro he
    obtain ⟨a, b, _, _, e, hR, _⟩ := at_ i (by omega)
    obtain ⟨a', b', _, _, e', hR', _⟩ := at_ j hj
    have hr := prl_rise g.L n i j hij hj
    rw [e, e'] at he hr
    have hb : b = b' := by have : (b : Int) = (b' : Int) := he; omega
    subst hb
    have : (a : Int) < (a' : Int) := hr
    omega
end
section
variable {n m k : Nat} {E : Nat → Int × Int} (hv : VG n m k E)
include hv
variable {g : Gr} (hM : Mat n m (nbs E k) g)
include hM
variable (hI : RsI n m (nbs E k) g n)
include hI
theorem cov_of : Cov E (setF (tl (lfR g.L (rS (nbs E k) m g n).seen) false n)) (setF (tl ((rS (nbs E k) m g n).seen) true m)) k := fun i hi => by
  obtain ⟨⟨h1, h2⟩, h3, h4⟩ := hv.ran i hi
  have hE : E i = ((((E i).1.toNat : Nat) : Int), (((E i).2.toNat : Nat) : Int)) := Prod.ext (by show (E i).1 = _; omega) (by show (E i).2 = _; omega)
  rw [setF_bt, setF_bt, tl_mem, tl_mem]
  cases hl : lfR g.L (rS (nbs E k) m g n).seen (E i).1.toNat with
  | false => exact .inl ⟨by omega, rfl⟩
  | true => exact .inr ⟨by omega, (near_left hM hI _).2 ⟨(E i).1.toNat, by omega, hl, (nbs_iff hv _ _ k (Nat.le_refl _)).2 ⟨i, hi, hE⟩⟩⟩
omit hv in
theorem cov_size : (prl g.L n).length = bcnt (setF (tl (lfR g.L (rS (nbs E k) m g n).seen) false n)) n + bcnt (setF (tl ((rS (nbs E k) m g n).seen) true m)) m := by
  rw [bcnt_tl, bcnt_tl]
  have h1 := prl_cnt g.L n
  have h2 : cntT (lfR g.L (rS (nbs E k) m g n).seen) n = cntT (freeB g) n + cntT ((rS (nbs E k) m g n).seen) m := cnt_left hM hI
  have h3 := cntT_not (lfR g.L (rS (nbs E k) m g n).seen) n
  have h4 : cntT (fun i => (rS (nbs E k) m g n).seen i == true) m = cntT ((rS (nbs E k) m g n).seen) m := cntT_congr fun i _ => by cases (rS (nbs E k) m g n).seen i <;> rfl
  have h5 : cntT (fun a => decide (g.L a = -1)) n = cntT (freeB g) n := rfl
  omega
theorem mat_max {Z : Nat → Int × Int} {p : Nat} (hZ : MatP E k Z p) : p ≤ (prl g.L n).length := by
  rw [cov_size hM hI]; exact weak_dual hv hZ (cov_of hv hM hI)
theorem cov_least {f h : Nat → Nat} (hC : Cov E f h k) (he : bcnt f n + bcnt h m = (prl g.L n).length) : ∀ b, (rS (nbs E k) m g n).seen b = true → bt h b = true := by
  have hcov : ∀ a b, a < n → b ∈ nbs E k a → bt f a = true ∨ bt h b = true := fun a b _ hb => by
    obtain ⟨i, hi, e⟩ := (nbs_iff hv a b k (Nat.le_refl _)).1 hb
    have := hC i hi
    rw [e] at this; exact this
  have s1 := cntT_split (bt f) (freeB g) n
  have e1 : cntT (fun a => bt f a && !freeB g a) n = cntT (fun b => !decide (g.R b = -1) && bt f (g.R b).toNat) m := mat_cnt hM (bt f)
  have e2 : cntT (fun a => true && !freeB g a) n = cntT (fun b => !decide (g.R b = -1) && true) m := mat_cnt hM (fun _ => true)
  have s2 := cntT_split (fun _ => true) (freeB g) n
  have c1 : cntT (fun _ => true) n = n := by have := cntT_not (fun _ => true) n; have h0 : cntT (fun _ => (true == false)) n = 0 := cntT_none n; omega
  have p1 := prl_cnt g.L n
  have p2 : cntT (fun a => decide (g.L a = -1)) n = cntT (fun a => true && freeB g a) n := cntT_congr fun a _ => by simp [freeB]
  /- the matched right nodes: partner in f, or itself in g -/
  have s3 := cntT_split (fun b => !decide (g.R b = -1) && true) (fun b => bt f (g.R b).toNat) m
  have s4 := cntT_split (bt h) (fun b => !decide (g.R b = -1)) m
  have s5 := cntT_split (fun b => bt h b && !decide (g.R b = -1)) (fun b => bt f (g.R b).toNat) m
  have q1 : cntT (fun b => (!decide (g.R b = -1) && true) && bt f (g.R b).toNat) m = cntT (fun b => !decide (g.R b = -1) && bt f (g.R b).toNat) m := cntT_congr fun b _ => by simp
  have q2 : cntT (fun b => (!decide (g.R b = -1) && true) && !bt f (g.R b).toNat) m ≤ cntT (fun b => (bt h b && !decide (g.R b = -1)) && !bt f (g.R b).toNat) m := cntT_mono fun b hb hx => by
    simp at hx
    obtain ⟨a, ha, hR, hL⟩ := (Mat.r hM b hb).resolve_left hx.1
    rcases hM.l a ha with h1 | ⟨b', _, h1, h2, _⟩
    · omega
    · have : b' = b := by omega
      subst this
      rw [hR] at hx
      have hgb := (hcov a b' ha h2).resolve_left (by rw [show ((a : Int)).toNat = a from rfl] at hx; rw [hx.2]; exact Bool.false_ne_true)
      rw [hgb, hR, show ((a : Int)).toNat = a from rfl, decide_eq_false (show ¬ (a : Int) = -1 by omega)]
      have := hx.2
      rw [show ((a : Int)).toNat = a from rfl] at this
      rw [this]; rfl
  rw [bcnt_cntT, bcnt_cntT] at he
  have z1 : cntT (fun a => bt f a && freeB g a) n = 0 := by omega
  have z2 : cntT (fun b => bt h b && !!decide (g.R b = -1)) m = 0 := by omega
  have z3 : cntT (fun b => (bt h b && !decide (g.R b = -1)) && bt f (g.R b).toNat) m = 0 := by omega
  have none_of : ∀ {P : Nat → Bool} {N : Nat}, cntT P N = 0 → ∀ i, i < N → P i = false := fun {P N} h i hi => by
    cases hP : P i with
    | false => rfl
    | true => exact absurd (cntT_full (S := fun _ => false) (T := P) (fun _ _ h => absurd h Bool.false_ne_true) (by omega) i hi hP) Bool.false_ne_true
  refine fun b hb => (hI.least (fun b => b < m ∧ bt h b = true) (fun b hb => ?_) (fun a ha hL b hb => ?_) b hb).2
  · obtain ⟨hbm, hgb⟩ := hb
    have y2 := none_of z2 b hbm
    have y3 := none_of z3 b hbm
    rw [hgb] at y2 y3
    have hR : g.R b ≠ -1 := by simpa using y2
    obtain ⟨a, ha, hRa, hL⟩ := (Mat.r hM b hbm).resolve_left hR
    rw [hRa, show ((a : Int)).toNat = a from rfl, decide_eq_false (show ¬ (a : Int) = -1 by omega)] at y3
    have hfa : bt f a = false := by simpa using y3
    refine ⟨hbm, hR, fun c hc => ?_⟩
    rw [hRa, show ((a : Int)).toNat = a from rfl] at hc
    exact ⟨vg_nb hv a c hc, (hcov a c ha hc).resolve_left (by rw [hfa]; exact Bool.false_ne_true)⟩
  · have y1 := none_of z1 a ha
    have hfr : freeB g a = true := decide_eq_true hL
    rw [hfr] at y1
    have hfa : bt f a = false := by simpa using y1
    exact ⟨vg_nb hv a b hb, (hcov a b ha hb).resolve_left (by rw [hfa]; exact Bool.false_ne_true)⟩
end
end Go.Proofs.YtngpfondnampjaaDoor
/- The antichain that Antichain returns (mathematics). -/
namespace Go.Proofs.YtngpfondnampjaaDoor
open Go.RowKit Go.Sort
theorem tl_cnt (T : Nat → Bool) (t : Bool) : ∀ n, (tl T t n).length = cntT (fun i => T i == t) n
  | 0 => rfl
  | n + 1 => by
    show _ = cntT _ n + (if (T n == t) = true then 1 else 0)
    by_cases h : T n = t
    · rw [tl_yes h, List.length_append, tl_cnt T t n, if_pos (by rw [h]; simp)]; rfl
    · rw [tl_no h, tl_cnt T t n, if_neg (by simpa using h)]; rfl
theorem cntT_sub (P Q : Nat → Bool) : ∀ n, cntT (fun i => P i || Q i) n ≤ cntT P n + cntT Q n
  | 0 => Nat.le_refl _
  | n + 1 => by
    have := cntT_sub P Q n
    show cntT _ n + (if (P n || Q n) = true then 1 else 0) ≤ cntT P n + (if P n = true then 1 else 0) + (cntT Q n + (if Q n = true then 1 else 0))
    cases P n <;> cases Q n <;> simp <;> omega
theorem pair_at {n : Nat} {T : Nat → Nat → Bool} {i j : Nat} (hi : i < n) (hj : j < n) (h : T i j = true) : ∃ e, e < (pairsL T n n).length ∧ zpair (pairsL T n n) e = ((i : Int), (j : Int)) := by
  obtain ⟨e, he, hE⟩ := List.getElem_of_mem (mem_pairsL.2 ⟨hi, hj, h⟩)
  exact ⟨e, he, by rw [zpair_at he, hE]⟩
section
variable {n : Nat} {T : Nat → Nat → Bool} (hn : n ≤ 512) (hl : (pairsL T n n).length ≤ 2000)
include hn hl
theorem m_mat : Mat n n (nbs (zpair (pairsL T n n)) (pairsL T n n).length) (maxS (nbs (zpair (pairsL T n n)) (pairsL T n n).length) n n) := maxM (vg_pairs hn hl)
theorem m_rsI : RsI n n (nbs (zpair (pairsL T n n)) (pairsL T n n).length) (maxS (nbs (zpair (pairsL T n n)) (pairsL T n n).length) n n) n := by
  have hv := vg_pairs hn hl
  obtain ⟨C, hC, hF⟩ := maxC (n := n) (vg_nb hv) n (Nat.le_refl _)
  exact rsI (vg_nb hv) (maxM hv) hC hF n (Nat.le_refl _)
theorem aL_anti {i j : Nat} (hi : i ∈ aL n T n) (hj : j ∈ aL n T n) : T i j = false := by
  obtain ⟨hi1, hi2⟩ := tl_mem.1 hi
  obtain ⟨hj1, hj2⟩ := tl_mem.1 hj
  cases h : T i j with
  | false => rfl
  | true =>
    obtain ⟨e, he, hE⟩ := pair_at hi1 hj1 h
    have hc := cov_of (vg_pairs hn hl) (m_mat hn hl) (m_rsI hn hl) e he
    rw [hE] at hc
    have eo : ∀ f g x, bt (comb orW f g) x = (bt f x || bt g x) := fun f g x => by unfold bt comb orW; exact Nat.testBit_or _ _ _
    have h1 : bt (cvW n T) i = true ∨ bt (cvW n T) j = true := by
      unfold cvW mleft mseen
      rw [eo, eo, Bool.or_eq_true, Bool.or_eq_true]
      rcases hc with h | h
      · exact .inl (.inl h)
      · exact .inr (.inr h)
    rcases h1 with h1 | h1
    · rw [hi2] at h1; cases h1
    · rw [hj2] at h1; cases h1
theorem aL_many : n ≤ (aL n T n).length + (mL n T).length := by
  have h1 := tl_cnt (bt (cvW n T)) false n
  have h2 := cntT_not (bt (cvW n T)) n
  have h3 : cntT (bt (cvW n T)) n ≤ (mL n T).length := by
    have hs := cov_size (m_mat hn hl) (m_rsI hn hl)
    have e : (mL n T).length = _ := hs
    rw [e, bcnt_cntT, bcnt_cntT]
    refine Nat.le_trans (Nat.le_of_eq (cntT_congr ?_)) (cntT_sub _ _ n)
    intro i _
    unfold cvW mleft mseen bt comb orW
    exact Nat.testBit_or _ _ _
  have h4 : (aL n T n).length = cntT (fun i => bt (cvW n T) i == false) n := h1
  omega
end
end Go.Proofs.YtngpfondnampjaaDoor
/- Links make chains; no antichain has more members than there are chains (mathematics). -/
namespace Go.Proofs.YtngpfondnampjaaDoor
open Go.RowKit Go.Sort
/- k links lead from i to j -/
def Lk (L : Nat → Int) : Nat → Nat → Nat → Prop
  | 0, i, j => i = j
  | k + 1, i, j => ∃ c : Nat, Lk L k i c ∧ L c = (j : Int)
/- links between numbers below n, each into one, upwards -/
structure Lnk (n : Nat) (T : Nat → Nat → Bool) (L : Nat → Int) : Prop where
  up : ∀ a, a < n → L a = -1 ∨ ∃ b : Nat, b < n ∧ L a = b ∧ T a b = true
  inj : ∀ a b, a < n → b < n → ∀ c : Nat, L a = c → L b = c → a = b
section
variable {n : Nat} {T : Nat → Nat → Bool} {L : Nat → Int}
theorem Lnk.to (h : Lnk n T L) {a : Nat} (ha : a < n) {c : Nat} (e : L a = (c : Int)) : c < n ∧ T a c = true := by
  rcases h.up a ha with h1 | ⟨b, hb, h1, h2⟩
  · rw [e] at h1; omega
  · have : b = c := by rw [e] at h1; omega
    subst this; exact ⟨hb, h2⟩
theorem Lk.lt (h : Lnk n T L) : ∀ {k i j : Nat}, i < n → Lk L k i j → j < n
  | 0, _, _, hi, e => by cases e; exact hi
  | k + 1, _, _, hi, ⟨c, h1, h2⟩ => (h.to (Lk.lt h hi h1) h2).1
theorem Lk.less (h : Lnk n T L) (hP : ∀ i, i < n → POk n T i) : ∀ {k i j : Nat}, i < n → Lk L (k + 1) i j → T i j = true
  | 0, i, j, hi, ⟨c, h1, h2⟩ => by cases h1; exact (h.to hi h2).2
  | k + 1, i, j, hi, ⟨c, h1, h2⟩ => by
    have hc := Lk.lt h hi h1
    have h3 := Lk.less h hP hi h1
    obtain ⟨hj, h4⟩ := h.to hc h2
    exact (hP i hi).2 c hc h3 j hj h4
theorem Lk.join (h : Lnk n T L) : ∀ {a b i j e : Nat}, i < n → j < n → a ≤ b → Lk L a i e → Lk L b j e → Lk L (b - a) j i
  | 0, b, i, j, e, _, _, _, h1, h2 => by cases h1; exact h2
  | a + 1, 0, _, _, _, _, _, hab, _, _ => by omega
  | a + 1, b + 1, i, j, e, hi, hj, hab, ⟨c, h1, h2⟩, ⟨d, h3, h4⟩ => by
    have : c = d := h.inj c d (Lk.lt h hi h1) (Lk.lt h hj h3) e h2 h4
    subst this
    rw [show b + 1 - (a + 1) = b - a by omega]
    exact Lk.join h hi hj (by omega) h1 h3
theorem Lk.left : ∀ {k i c j : Nat}, L i = (c : Int) → Lk L k c j → Lk L (k + 1) i j
  | 0, i, c, j, e, h => by cases h; exact ⟨i, rfl, e⟩
  | k + 1, i, c, j, e, ⟨d, h1, h2⟩ => ⟨d, Lk.left e h1, h2⟩
/- the last one that the links lead to -/
theorem lk_end (h : Lnk n T L) (hP : ∀ i, i < n → POk n T i) : ∀ (f i : Nat), i < n → (rowL T n i).length ≤ f → ∃ k e, Lk L k i e ∧ L e = -1
  | f, i, hi, hf => by
    rcases h.up i hi with h1 | ⟨b, hb, h1, h2⟩
    · exact ⟨0, i, rfl, h1⟩
    · have hr := row_less hP hi hb h2
      match f with
      | 0 => omega
      | f + 1 =>
        obtain ⟨k, e, h3, h4⟩ := lk_end h hP f b hb (by omega)
        exact ⟨k + 1, e, Lk.left h1 h3, h4⟩
theorem anti_few (h : Lnk n T L) (hP : ∀ i, i < n → POk n T i) (S : Nat → Bool) (hS : ∀ i, i < n → ∀ j, j < n → S i = true → S j = true → T i j = false) :
    cntT S n ≤ cntT (fun a => decide (L a = -1)) n := by
  have hex : ∀ i, ∃ e, i < n → ∃ k, Lk L k i e ∧ L e = -1 := fun i => by
    by_cases hi : i < n
    · obtain ⟨k, e, h1, h2⟩ := lk_end h hP _ i hi (Nat.le_refl _)
      exact ⟨e, fun _ => ⟨k, h1, h2⟩⟩
    · exact ⟨0, fun h => absurd h hi⟩
  obtain ⟨φ, hφ⟩ := Classical.axiomOfChoice hex
  refine inj_cnt (φ := φ) (fun i j hij hj hi1 hj1 e => ?_) (fun i hi _ => ?_)
  · have hi : i < n := by omega
    obtain ⟨a, h1, _⟩ := hφ i hi
    obtain ⟨b, h2, _⟩ := hφ j hj
    rw [e] at h1
    rcases Nat.le_total a b with hab | hab
    · have h3 := Lk.join h hi hj hab h1 h2
      cases hk : b - a with
      | zero => rw [hk] at h3; have : j = i := h3; omega
      | succ k =>
        rw [hk] at h3
        have h4 := Lk.less h hP hj h3
        rw [hS j hj i hi hj1 hi1] at h4; cases h4
    · have h3 := Lk.join h hj hi hab h2 h1
      cases hk : a - b with
      | zero => rw [hk] at h3; have : i = j := h3; omega
      | succ k =>
        rw [hk] at h3
        have h4 := Lk.less h hP hi h3
        rw [hS i hi j hj hi1 hj1] at h4; cases h4
  · obtain ⟨k, h1, h2⟩ := hφ i hi
    exact ⟨Lk.lt h hi h1, decide_eq_true h2⟩
end
/- the links of the greatest matching -/
theorem m_lnk {n : Nat} {T : Nat → Nat → Bool} (hn : n ≤ 512) (hl : (pairsL T n n).length ≤ 2000) : Lnk n T (maxS (nbs (zpair (pairsL T n n)) (pairsL T n n).length) n n).L := by
  have hM := m_mat hn hl
  have hv := vg_pairs hn hl
  refine ⟨fun a ha => ?_, fun a b ha hb c e1 e2 => ?_⟩
  · rcases hM.l a ha with h | ⟨b, hb, h1, h2, _⟩
    · exact .inl h
    · obtain ⟨i, hi, hE⟩ := (nbs_iff hv a b _ (Nat.le_refl _)).1 h2
      rw [zpair_at hi] at hE
      have hm : ((pairsL T n n)[i].1, (pairsL T n n)[i].2) ∈ pairsL T n n := List.getElem_mem hi
      obtain ⟨_, _, h3⟩ := mem_pairsL.1 hm
      injection hE with x1 x2
      have y1 : (pairsL T n n)[i].1 = a := by omega
      have y2 : (pairsL T n n)[i].2 = b := by omega
      rw [y1, y2] at h3
      exact .inr ⟨b, hb, h1, h3⟩
  · rcases hM.l a ha with h | ⟨x, _, h1, _, h2⟩
    · rw [e1] at h; omega
    · rcases hM.l b hb with h | ⟨y, _, h3, _, h4⟩
      · rw [e2] at h; omega
      · have hx : x = c := by rw [e1] at h1; omega
        have hy : y = c := by rw [e2] at h3; omega
        subst hx; subst hy
        rw [h2] at h4; omega
/- no antichain has more members than Antichain's -/
theorem anti_most {n : Nat} {T : Nat → Nat → Bool} (hn : n ≤ 512) (hl : (pairsL T n n).length ≤ 2000) (hP : ∀ i, i < n → POk n T i) (S : Nat → Bool) (hS : ∀ i, i < n → ∀ j, j < n → S i = true → S j = true → T i j = false) :
    cntT S n + (mL n T).length ≤ n := by
  have h1 := anti_few (m_lnk hn hl) hP S hS
  have h2 := prl_cnt (maxS (nbs (zpair (pairsL T n n)) (pairsL T n n).length) n n).L n
  have e : (mL n T).length = (prl (maxS (nbs (zpair (pairsL T n n)) (pairsL T n n).length) n n).L n).length := rfl
  omega
/- so it has as many members as there are chains -/
theorem aL_len {n : Nat} {T : Nat → Nat → Bool} (hn : n ≤ 512) (hl : (pairsL T n n).length ≤ 2000) (hP : ∀ i, i < n → POk n T i) : (aL n T n).length + (mL n T).length = n := by
  have h1 := aL_many hn hl
  have h2 := anti_most hn hl hP (fun i => bt (cvW n T) i == false) (fun i hi j hj h3 h4 => aL_anti hn hl (tl_mem.2 ⟨hi, by simpa using h3⟩) (tl_mem.2 ⟨hj, by simpa using h4⟩))
  have h3 : (aL n T n).length = cntT (fun i => bt (cvW n T) i == false) n := tl_cnt (bt (cvW n T)) false n
  omega
end Go.Proofs.YtngpfondnampjaaDoor
/- Package poset: Restrict. -/
namespace Go.Proofs.YtngpfondnampjaaDoor
open Go.RowKit Go.Sort
theorem getD_lt {l : List Nat} {q : Nat} (h : q < l.length) : l.getD q 0 = l[q] := by rw [List.getD_eq_getElem?_getD, List.getElem?_eq_getElem h]; rfl
theorem relAt_put2 {w : World} {p : Nat} {A A' : Option Addr} {n n' c c' : Nat} (h : RelAt w p A n c) : RelAt (w.setCell ⟨p, 0, none⟩ (.slice A' n' c')) p A' n' c' := by
  have := heap_setCell_same w p 0 _ _ (.slice A' n' c') h
  unfold RelAt
  simpa using this
theorem isSetOf_yes (A S : Option Addr) (n c l cs : Nat) (s : Nat → Nat) (w : World) (hS : Wds w S l s) (hs : Vld (n : Int) l s) :
    Calls Tryd.prog 60 #[.agg #[.slice A n c], .agg #[.int .i64 n, .slice S l cs]] w fun e w' => e = .returned (.bool true) ∧ Below w.heap.size w w' := by
  have r0 := (relAt_new w A n c).alloc (.cells #[.int .i64 n, .slice S l cs] 28)
  have q0 := setAt_new (w.alloc (.cells #[.slice A n c] 24)) n S l cs
  have hz : (w.alloc (.cells #[.slice A n c] 24)).heap.size = w.heap.size + 1 := by simp
  rw [hz] at q0
  have b0 : Below w.heap.size w ((w.alloc (.cells #[.slice A n c] 24)).alloc (.cells #[.int .i64 n, .slice S l cs] 28)) := ((Below.refl _ _).alloc (Nat.le_refl _) _).alloc (by simp) _
  have HV := Lib.hid (valid_yes n S l cs s _ (hS.below b0) hs)
  clear hz hS hs
  go_enter Tryd.func60, Tryd.ntmps60
  go_upto_region 1 with fail
  generalize (w.alloc (.cells #[.slice A n c] 24)).alloc (.cells #[.int .i64 n, .slice S l cs] 28) = W at *
  have c0 := q0.c0
  have c1 := q0.c1
  go_wp2_with fail
  refine HV.out.mono ?_; rintro e w2 ⟨rfl, b2⟩
  have r2 := r0.below b2
  have q2 := q0.below b2
  clear c0 c1 r0 q0
  have c0 := r2.c0
  have d0 := q2.c0
  have d1 := q2.c1
  have hq : ((n : Int) == (n : Int)) = true := by simp
  go_wp2_with fail
  go_ret
  exact ⟨rfl, below_next b0 b2⟩
def rsT (T : Nat → Nat → Bool) (m : List Nat) (i j : Nat) : Bool := T (m.getD i 0) (m.getD j 0)
def prT (T : Nat → Nat → Bool) (n K D : Nat) : List (Nat × Nat) := pairsL T n K ++ (tl (T K) true D).map fun j => (K, j)
theorem prT_zero (T : Nat → Nat → Bool) (n K : Nat) : prT T n K 0 = pairsL T n K := by unfold prT tl; simp
theorem prT_end (T : Nat → Nat → Bool) (n K : Nat) : prT T n K n = pairsL T n (K + 1) := by
  unfold prT tl
  show _ = pairsL T n K ++ (rowL T n K).map fun j => (K, j)
  unfold rowL
  congr 2
  refine List.filter_congr fun x _ => ?_
  simp
theorem prT_yes {T : Nat → Nat → Bool} {n K D : Nat} (h : T K D = true) : prT T n K (D + 1) = prT T n K D ++ [(K, D)] := by
  unfold prT; rw [tl_yes h, List.map_append, List.append_assoc]; rfl
theorem prT_no {T : Nat → Nat → Bool} {n K D : Nat} (h : T K D = false) : prT T n K (D + 1) = prT T n K D := by
  unfold prT; rw [tl_no (by rw [h]; exact Bool.false_ne_true)]
theorem prT_len (T : Nat → Nat → Bool) (n K D : Nat) (hn : n ≤ 512) (hK : K ≤ n) (hD : D ≤ n) : (prT T n K D).length ≤ 300000 := by
  unfold prT
  rw [List.length_append, List.length_map]
  have h1 := pairsL_len T n K
  have h2 := tl_len (T K) true D
  have h3 : K * n ≤ 512 * 512 := Nat.mul_le_mul (by omega) hn
  omega
set_option maxRecDepth 100000 in
set_option maxHeartbeats 8000000 in
theorem restrict_on (A S : Option Addr) (n c cs : Nat) (R : Nat → RowD) (s : Nat → Nat) (m : List Nat) (w : World) (h : Rel w A n R) (hT : Tab w) (hP : POrd n R) (hS : Wds w S ((n + 63) / 64) s) (hs : Vld (n : Int) ((n + 63) / 64) s) (hm : m = (List.range n).filter (bt s)) :
    Calls Tryd.prog 29 #[.agg #[.slice A n c], .agg #[.int .i64 n, .slice S ((n + 63) / 64) cs]] w (RelOk w m.length (rsT (mat R) m)) := by
  have hn := hP.1.1
  have HP := Lib.hid hP
  have HH := Lib.hid h
  have HS := Lib.hid hS
  have HVS := Lib.hid hs
  have r0 := ((relAt_new w A n c).alloc (.cells #[.int .i64 n, .slice S ((n + 63) / 64) cs] 28)).alloc (.cells #[.slice none 0 0] 24)
  have q0 := (setAt_new (w.alloc (.cells #[.slice A n c] 24)) n S ((n + 63) / 64) cs).alloc (.cells #[.slice none 0 0] 24)
  have s0 := relAt_new ((w.alloc (.cells #[.slice A n c] 24)).alloc (.cells #[.int .i64 n, .slice S ((n + 63) / 64) cs] 28)) none 0 0
  have hz : (w.alloc (.cells #[.slice A n c] 24)).heap.size = w.heap.size + 1 := by simp
  have hz2 : ((w.alloc (.cells #[.slice A n c] 24)).alloc (.cells #[.int .i64 n, .slice S ((n + 63) / 64) cs] 28)).heap.size = w.heap.size + 2 := by simp
  rw [hz] at q0
  rw [hz2] at s0
  have b0 : Below w.heap.size w (((w.alloc (.cells #[.slice A n c] 24)).alloc (.cells #[.int .i64 n, .slice S ((n + 63) / 64) cs] 28)).alloc (.cells #[.slice none 0 0] 24)) := (((Below.refl _ _).alloc (Nat.le_refl _) _).alloc (by simp) _).alloc (by simp; omega) _
  obtain ⟨mw, hmw⟩ : ∃ mw, (n + 63) / 64 = mw := ⟨_, rfl⟩
  rw [hmw] at HS HVS r0 q0 s0 b0
  rw [hmw]
  have hmm : Hid (∀ x, x ∈ m → x < n) := Lib.hid fun x hx => by rw [hm, List.mem_filter, List.mem_range] at hx; exact hx.1
  have hml : m.length ≤ n := by
    rw [hm]
    have := List.length_filter_le (bt s) (List.range n)
    simpa using this
  have HMM := Lib.hid hm
  clear hz hz2 hP h hS hs hmw hm
  obtain ⟨k, hk⟩ : ∃ k, k = m.length := ⟨_, rfl⟩
  have HK := Lib.hid hk
  rw [← hk]
  clear hk
  obtain ⟨T, hTT⟩ : ∃ T, T = rsT (mat R) m := ⟨_, rfl⟩
  rw [← hTT]
  have HTT : Hid (∀ i j, T i j = mat R (m.getD i 0) (m.getD j 0)) := Lib.hid fun i j => by rw [hTT]; rfl
  clear hTT
  go_enter Tryd.func29, Tryd.ntmps29
  go_upto_region 1 with fail
  generalize ((w.alloc (.cells #[.slice A n c] 24)).alloc (.cells #[.int .i64 n, .slice S mw cs] 28)).alloc (.cells #[.slice none 0 0] 24) = W at *
  have c0 := r0.c0
  go_wp2_with fail
  refine (pvalid_any A n c R true W (HH.out.below b0) (by omega) (hT.below b0) ⟨fun _ => HP.out, fun _ => rfl⟩).mono ?_; rintro e w2 ⟨rfl, b2⟩
  have r2 := r0.below b2
  have q2 := q0.below b2
  have s2 := s0.below b2
  have B2 := below_next b0 b2
  clear r0 q0 s0 c0 b0 b2
  have c0 := r2.c0
  have d0 := q2.c0
  have d1 := q2.c1
  go_wp2_with fail
  refine (isSetOf_yes A S n c mw cs s w2 (HS.out.below B2) HVS.out).mono ?_; rintro e w3 ⟨rfl, b3⟩
  have r3 := r2.below b3
  have q3 := q2.below b3
  have s3 := s2.below b3
  have B3 := below_next B2 b3
  clear r2 q2 s2 c0 d0 d1 B2 b3
  have d0 := q3.c0
  have d1 := q3.c1
  have HM := Lib.hid (pmembers_any n ⟨n, S, mw, cs, s⟩ w3 (HS.out.below B3) ⟨rfl, HVS.out⟩ (hT.below B3))
  unfold RowOut at HM
  rw [show (List.range n).filter (bt (RowD.mk n S mw cs s).f) = m from HMM.out.symm] at HM
  go_wp2_with fail
  refine HM.out.mono ?_; rintro e w5 ⟨vm, rfl, hown, b4⟩
  have r5 := r3.below b4
  have s5 := s3.below b4
  have B5 := below_next B3 b4
  obtain ⟨Am, cm, rfl, hIm, _⟩ := own_ints hown
  have HI5 := Lib.hid hIm
  have hw5 : w.heap.size + 2 < w5.heap.size := s5.lt
  clear r3 q3 s3 d0 d1 B3 b4 HM hown hIm
  rw [← HK.out] at hml HI5 ⊢
  go_wp2_with fail
  go_loopw [7, 24] (fun v i wr => ∃ K : Nat, K ≤ k ∧ i = .int .i64 K ∧ wr.ownsRow w5.heap.size 78 2 v (pairsL T k K).length (pvals (pairsL T k K)) ∧ Below w5.heap.size w5 wr) (fun _ i _ => k - (intOf i).toNat)
  case atStart => exact ⟨0, Nat.zero_le _, rfl, World.ownsRow_nil _ _ _ _, Below.refl _ _⟩
  case round =>
    obtain ⟨K, hK, rfl, hown, hB⟩ := hrel
    by_cases hlt : K < k
    · have hwrap : IntKind.i64.wrap ((K : Int) + 1) = (K : Int) + 1 := IntWalk.i64_in _ (by omega)
      rw [← prT_zero T k K] at hown
      go_wp2_with fail
      go_loopw [7, 29] (fun v i wr => ∃ D : Nat, D ≤ k ∧ i = .int .i64 D ∧ wr.ownsRow w5.heap.size 78 2 v (prT T k K D).length (pvals (prT T k K D)) ∧ Below w5.heap.size w5 wr) (fun _ i _ => k - (intOf i).toNat)
      case atStart => exact ⟨0, Nat.zero_le _, rfl, hown, hB⟩
      case round =>
        clear hown hB
        obtain ⟨D, hD, rfl, hown, hB⟩ := hrel
        by_cases hlt2 : D < k
        · have hwrap2 : IntKind.i64.wrap ((D : Int) + 1) = (D : Int) + 1 := IntWalk.i64_in _ (by omega)
          obtain ⟨bm, om, rfl, hbm, hcm⟩ := (HI5.out.below hB) (by omega)
          have z0 := hcm K hlt
          have z1 := hcm D hlt2
          unfold gets at z0 z1
          have hKn : m.getD K 0 < n := by rw [getD_lt (by rw [← HK.out]; exact hlt)]; exact hmm.out _ (List.getElem_mem _)
          have hDn : m.getD D 0 < n := by rw [getD_lt (by rw [← HK.out]; exact hlt2)]; exact hmm.out _ (List.getElem_mem _)
          obtain ⟨v, hv⟩ : ∃ v, T K D = v := ⟨_, rfl⟩
          have hvm : mat R (m.getD K 0) (m.getD D 0) = v := by rw [← HTT.out]; exact hv
          have HVV := Lib.hid hv
          generalize m.getD K 0 = a at *
          generalize m.getD D 0 = b at *
          have hr := r5.below hB
          have k0 := cell_regrown hr.c0
          obtain ⟨ba, oa, rfl, hbl, hcz⟩ := (HH.out.below (below_next B5 hB)) (by omega)
          obtain ⟨x0, x1, xw⟩ := hcz a hKn
          have hvk := HP.out.1.2 a hKn
          rw [hvk.1] at x0
          have k1 := cell_regrown x0
          have k2 := cell_regrown x1
          have k3 := cell_regrown z0
          have k4 := cell_regrown z1
          have CA := Lib.hid (fun d os => Calls.regrown_of (has_in n b (R a).A (R a).l (R a).c (R a).f v (grow (redrawn wr d) os) (xw.below (below_regrown wr d os)) hvk.2 hDn hvm))
          have hpl := prT_len T k K D (by omega) hK (by omega)
          have hown0 := hown
          clear hcm z0 z1 hv hvm hr hcz xw hvk x0 x1
          generalize (R a).A = A1 at *
          generalize (R a).l = l1 at *
          generalize (R a).c = c1 at *
          go_upto_region 11 with fail
          refine wp_region_quiet_below (by kernel_rfl) (by kernel_rfl) ?_
          repeat (first | go_big_quiet_step (first | with_reducible exact CA.out _ _) | quiet_step (first | with_reducible exact CA.out _ _))
          refine wpQuiet_nil ?_
          intro _ hw'
          obtain ⟨⟨dq, osq⟩, hw''⟩ := hw'
          subst hw''
          have bq := below_regrown wr dq osq
          have hown2 := own_below hown0 bq
          have hB2 := below_next hB bq
          clear k0 k1 k2 k3 k4 CA hown hown0 bq hB
          generalize grow (redrawn wr dq) osq = wr at *
          cases v with
          | false =>
            have hst : Hid (prT T k K (D + 1) = prT T k K D) := Lib.hid (prT_no HVV.out)
            go_wp2_with fail
            go_roundw
            case rel => exact ⟨D + 1, hlt2, by go_num, by rw [hst.out]; exact hown2, hB2⟩
            case measure => simp [intOf]; omega
          | true =>
            have hst : Hid (prT T k K (D + 1) = prT T k K D ++ [(K, D)]) := Lib.hid (prT_yes HVV.out)
            generalize prT T k K D = P2 at *
            have hbase : w5.heap.size ≤ wr.heap.size := hB2.size
            go_wp2_with (at_builtin; refine append_pair rfl (.tmp 45) (.tmp 49) rfl w5.heap.size _ P2 K D K D wr rfl hown2 rfl (by omega) hbase rfl rfl ?_; intro v' w8 hown8 hg8)
            have bP : Below wr.heap.size wr (wr.alloc (.cells #[.int .i64 (K : Int), .int .i64 (D : Int)] 78)) := (Below.refl _ _).alloc (Nat.le_refl _) _
            have hownA := own_below hown2 bP
            have B8 := grown_below2 (below_next hB2 bP) hownA (Nat.le_refl _) hg8
            go_roundw
            case rel => exact ⟨D + 1, hlt2, by go_num, by rw [hst.out]; exact hown8, B8⟩
            case measure => simp [intOf]; omega
        · obtain rfl : D = k := by omega
          rw [prT_end] at hown
          go_wp2_with fail
          go_roundw
          case rel => exact ⟨K + 1, hlt, by go_num, hown, hB⟩
          case measure => simp [intOf]; omega
    · obtain rfl : K = k := by omega
      obtain ⟨Ap, cp, rfl, hPr⟩ := own_prs hown
      have hpl : (pairsL T K K).length ≤ 300000 := by
        have h1 := pairsL_len T K K
        have h2 : K * K ≤ 512 * 512 := Nat.mul_le_mul (by omega) (by omega)
        omega
      have HMk := Lib.hid (make_prs K (pairsL T K K).length Ap cp (pairsL T K K) wr (by omega) rfl hPr (by omega) (fun p hp => by
        obtain ⟨h1, h2, _⟩ := mem_pairsL.1 (show (p.1, p.2) ∈ pairsL T K K from hp)
        exact ⟨h1, h2⟩))
      unfold RelOk at HMk
      have hct : Hid (∀ i, i < K → ∀ j, j < K → (pairsL T K K).contains (i, j) = T i j) := Lib.hid fun i hi j hj => by
        rw [Bool.eq_iff_iff, List.contains_iff_mem, mem_pairsL]
        exact ⟨fun h => h.2.2, fun h => ⟨hi, hj, h⟩⟩
      generalize pairsL T K K = P at *
      clear hPr hown
      go_wp2_with fail
      refine HMk.out.mono ?_; rintro e w8 ⟨Ao, co, Ro, rfl, hRo, hFo, hVo, hMo, b8⟩
      have s8 := (s5.below hB).below b8
      have B8 := below_next (below_next B5 hB) b8
      have k0 := s8.c0
      have f0 := s8.free 0
      have s9 := relAt_put2 (A' := Ao) (n' := K) (c' := co) s8
      have j0 := s9.c0
      have hwr : w5.heap.size ≤ wr.heap.size := hB.size
      have HRo := Lib.hid (hRo.far_new (q := ⟨w.heap.size + 2, 0, none⟩) hFo (by show w.heap.size + 2 < wr.heap.size; omega) (.slice Ao K co))
      have HFo := Lib.hid (hFo.mono (show w.heap.size ≤ wr.heap.size by omega))
      have HVo := Lib.hid hVo
      have HMo := Lib.hid hMo
      have B9 := Lib.hid (B8.setCell (p := ⟨w.heap.size + 2, 0, none⟩) (by show w.heap.size ≤ w.heap.size + 2; omega) (.slice Ao K co))
      clear hRo hFo hVo hMo b8 B8 hB s8 s9 HMk
      go_wp2_with fail
      refine bodyPost_ret (v := .tuple #[.agg #[.slice Ao K co], .int .i64 0]) (by simp [results, Tryd.results29, go_sem, j0]) rfl ?_
      exact ⟨Ao, co, Ro, rfl, HRo.out, HFo.out, HVo.out, fun i hi j hj => (HMo.out i hi j hj).trans (hct.out i hi j hj), B9.out⟩
end Go.Proofs.YtngpfondnampjaaDoor
/- A poset is not greater than width times height; its parts have neither greater (mathematics). -/
namespace Go.Proofs.YtngpfondnampjaaDoor
open Go.RowKit Go.Sort
theorem ht_up {n : Nat} {T : Nat → Nat → Bool} (hP : ∀ i, i < n → POk n T i) {i j : Nat} (hi : i < n) (hj : j < n) (h : T i j = true) : ht n T j < ht n T i := by
  rw [ht_eq hP hi]
  have := hmax_ge (g := ht n T) (in_rowL.2 ⟨hj, h⟩)
  omega
/- the numbers of height at most d -/
theorem levels_few {n w : Nat} {T : Nat → Nat → Bool} (hP : ∀ i, i < n → POk n T i) (hw : ∀ S : Nat → Bool, (∀ i, i < n → ∀ j, j < n → S i = true → S j = true → T i j = false) → cntT S n ≤ w) :
    ∀ d, cntT (fun i => decide (ht n T i ≤ d)) n ≤ w * d
  | 0 => by
    have : cntT (fun i => decide (ht n T i ≤ 0)) n = cntT (fun _ => false) n := cntT_congr fun i _ => decide_eq_false (by have := ht_pos n T i; omega)
    rw [this, cntT_none]; omega
  | d + 1 => by
    have ih := levels_few hP hw d
    have h1 := hw (fun i => decide (ht n T i = d + 1)) (fun i hi j hj h1 h2 => by
      cases h : T i j with
      | false => rfl
      | true =>
        have := ht_up hP hi hj h
        have e1 := of_decide_eq_true h1
        have e2 := of_decide_eq_true h2
        omega)
    have h2 : cntT (fun i => decide (ht n T i ≤ d + 1)) n = cntT (fun i => decide (ht n T i ≤ d) || decide (ht n T i = d + 1)) n := cntT_congr fun i _ => by
      rw [← Bool.decide_or, decide_eq_decide]; omega
    have h3 := cntT_sub (fun i => decide (ht n T i ≤ d)) (fun i => decide (ht n T i = d + 1)) n
    rw [h2, Nat.mul_succ]
    omega
theorem cntT_all (P : Nat → Bool) : ∀ n, (∀ i, i < n → P i = true) → cntT P n = n
  | 0, _ => rfl
  | n + 1, h => by
    show cntT P n + (if P n = true then 1 else 0) = n + 1
    rw [if_pos (h n (Nat.lt_succ_self n)), cntT_all P n fun i hi => h i (by omega)]
section
variable {n : Nat} {T : Nat → Nat → Bool} (hn : n ≤ 512) (hl : (pairsL T n n).length ≤ 2000) (hP : ∀ i, i < n → POk n T i)
include hn hl hP
theorem n_le_wh : n ≤ (n - (mL n T).length) * hgt n T := by
  have h1 := levels_few hP (w := n - (mL n T).length) (fun S hS => by have := anti_most hn hl hP S hS; omega) (hgt n T)
  have h2 := cntT_all (fun i => decide (ht n T i ≤ hgt n T)) n fun i hi => decide_eq_true (hmax_ge (g := ht n T) (List.mem_range.2 hi))
  omega
theorem w_pos (h0 : 0 < n) : 0 < n - (mL n T).length := by
  have h1 := anti_most hn hl hP (fun i => decide (i = 0)) (fun i hi j hj h1 h2 => by
    have e1 := of_decide_eq_true h1
    have e2 := of_decide_eq_true h2
    subst e1; subst e2
    exact (hP 0 hi).1)
  have h2 : 0 < cntT (fun i => decide (i = 0)) n := by
    have := cntT_mark (s := fun _ => false) (b := 0) rfl h0
    have e : cntT (mark (fun _ => false) 0) n = cntT (fun i => decide (i = 0)) n := cntT_congr fun i _ => by
      unfold mark
      by_cases hi : i = 0
      · rw [if_pos hi, decide_eq_true hi]
      · rw [if_neg hi, decide_eq_false hi]
    omega
  omega
omit hn hl
theorem h_le : hgt n T ≤ n := hmax_le fun i hi => by
  have hi := List.mem_range.1 hi
  have h1 : ht n T i ≤ (rowL T n i).length + 1 := hf_le _ _
  have h2 : (rowL T n i).length < ((List.range n).filter fun _ => true).length := filter_lt hi rfl (hP i hi).1 (fun _ _ _ => rfl)
  have h3 : ((List.range n).filter fun _ => true).length ≤ n := Nat.le_trans (List.length_filter_le _ _) (by rw [List.length_range]; exact Nat.le_refl _)
  omega
omit hP
theorem h_pos (h0 : 0 < n) : 0 < hgt n T := Nat.lt_of_lt_of_le (ht_pos n T 0) (hmax_ge (g := ht n T) (List.mem_range.2 h0))
end
end Go.Proofs.YtngpfondnampjaaDoor
/- A part of a poset is not wider, and not higher (mathematics). -/
namespace Go.Proofs.YtngpfondnampjaaDoor
open Go.RowKit Go.Sort
structure PartM (n : Nat) (m : List Nat) : Prop where
  lt : ∀ x, x ∈ m → x < n
  nd : m.Nodup
section
variable {n : Nat} {T : Nat → Nat → Bool} {m : List Nat} (hm : PartM n m)
include hm
theorem PartM.at_ {i : Nat} (hi : i < m.length) : m.getD i 0 < n := by rw [getD_lt hi]; exact hm.lt _ (List.getElem_mem hi)
theorem PartM.ne {i j : Nat} (hij : i < j) (hj : j < m.length) : m.getD i 0 ≠ m.getD j 0 := fun e => by
  rw [getD_lt (by omega), getD_lt hj] at e
  have := (List.getElem_inj hm.nd).1 e
  omega
theorem part_pok (hP : ∀ i, i < n → POk n T i) : ∀ i, i < m.length → POk m.length (rsT T m) i := fun _ hi =>
  ⟨(hP _ (hm.at_ hi)).1, fun _ hj h1 _ hk h2 => (hP _ (hm.at_ hi)).2 _ (hm.at_ hj) h1 _ (hm.at_ hk) h2⟩
theorem part_w (hn : n ≤ 512) (hl : (pairsL T n n).length ≤ 2000) (hP : ∀ i, i < n → POk n T i) (hn' : m.length ≤ 512) (hl' : (pairsL (rsT T m) m.length m.length).length ≤ 2000) :
    m.length - (mL m.length (rsT T m)).length ≤ n - (mL n T).length := by
  have h1 := aL_len hn' hl' (part_pok hm hP)
  have h2 := tl_cnt (bt (cvW m.length (rsT T m))) false m.length
  have h3 := anti_most hn hl hP (fun x => decide (∃ i, i ∈ aL m.length (rsT T m) m.length ∧ m.getD i 0 = x)) (fun x hx y hy e1 e2 => by
    obtain ⟨i, hi, rfl⟩ := of_decide_eq_true e1
    obtain ⟨j, hj, rfl⟩ := of_decide_eq_true e2
    exact aL_anti hn' hl' hi hj)
  have h4 : cntT (fun i => bt (cvW m.length (rsT T m)) i == false) m.length ≤ cntT (fun x => decide (∃ i, i ∈ aL m.length (rsT T m) m.length ∧ m.getD i 0 = x)) n :=
    inj_cnt (φ := fun i => m.getD i 0) (fun i j hij hj _ _ => hm.ne hij hj) (fun i hi hb => ⟨hm.at_ hi, decide_eq_true ⟨i, tl_mem.2 ⟨hi, by simpa using hb⟩, rfl⟩⟩)
  have h5 : (aL m.length (rsT T m) m.length).length = cntT (fun i => bt (cvW m.length (rsT T m)) i == false) m.length := h2
  omega
theorem part_ht (hP : ∀ i, i < n → POk n T i) : ∀ (f i : Nat), i < m.length → (rowL (rsT T m) m.length i).length ≤ f → ht m.length (rsT T m) i ≤ ht n T (m.getD i 0)
  | f, i, hi, hf => by
    rw [ht_eq (part_pok hm hP) hi, ht_eq hP (hm.at_ hi)]
    refine Nat.succ_le_succ (hmax_le fun j hj => ?_)
    obtain ⟨hjn, hij⟩ := in_rowL.1 hj
    have hr := row_less (part_pok hm hP) hi hjn hij
    match f with
    | 0 => omega
    | f + 1 =>
      exact Nat.le_trans (part_ht hP f j hjn (by omega)) (hmax_ge (g := ht n T) (in_rowL.2 ⟨hm.at_ hjn, hij⟩))
theorem part_h (hP : ∀ i, i < n → POk n T i) : hgt m.length (rsT T m) ≤ hgt n T := hmax_le fun i hi => by
  have hi := List.mem_range.1 hi
  exact Nat.le_trans (part_ht hm hP _ i hi (Nat.le_refl _)) (hmax_ge (g := ht n T) (List.mem_range.2 (hm.at_ hi)))
theorem part_pairs : (pairsL (rsT T m) m.length m.length).length ≤ (pairsL T n n).length := by
  have h1 := (pairsL_nodup (rsT T m) m.length m.length)
  have h2 : ((pairsL (rsT T m) m.length m.length).map fun p => (m.getD p.1 0, m.getD p.2 0)).Nodup := by
    refine List.Pairwise.map _ (fun a b hab e => ?_) (List.Pairwise.and_mem.1 h1)
    obtain ⟨ha, hb, hne⟩ := hab
    injection e with e1 e2
    obtain ⟨a1, a2⟩ := a
    obtain ⟨b1, b2⟩ := b
    obtain ⟨x1, x2, _⟩ := mem_pairsL.1 ha
    obtain ⟨y1, y2, _⟩ := mem_pairsL.1 hb
    rw [getD_lt x1, getD_lt y1] at e1
    rw [getD_lt x2, getD_lt y2] at e2
    have z1 := (List.getElem_inj hm.nd).1 e1
    have z2 := (List.getElem_inj hm.nd).1 e2
    exact hne (by rw [z1, z2])
  have h3 : ∀ p, p ∈ (pairsL (rsT T m) m.length m.length).map (fun p => (m.getD p.1 0, m.getD p.2 0)) → p ∈ pairsL T n n := fun p hp => by
    obtain ⟨⟨a1, a2⟩, ha, rfl⟩ := List.mem_map.1 hp
    obtain ⟨x1, x2, x3⟩ := mem_pairsL.1 ha
    exact mem_pairsL.2 ⟨hm.at_ x1, hm.at_ x2, x3⟩
  have h4 := (List.Nodup.length_le_of_subset h2 h3)
  rw [List.length_map] at h4
  exact h4
end
end Go.Proofs.YtngpfondnampjaaDoor
/- The reference's Pairs; the laws own fault and good. -/
namespace Go.Proofs.YtngpfondnampjaaDoor
open Go.RowKit Go.Sort
def prI (T : Nat → Nat → Bool) (n K D : Nat) : List (Nat × Nat) := pairsL T n K ++ ((List.range D).filter (T K)).map fun j => (K, j)
theorem prI_yes {T : Nat → Nat → Bool} {n K D : Nat} (h : T K D = true) : prI T n K (D + 1) = prI T n K D ++ [(K, D)] := by
  unfold prI
  rw [List.range_succ, List.filter_append, List.map_append, List.append_assoc]
  simp [h]
theorem prI_no {T : Nat → Nat → Bool} {n K D : Nat} (h : T K D = false) : prI T n K (D + 1) = prI T n K D := by
  unfold prI
  rw [List.range_succ, List.filter_append]
  simp [h]
theorem prI_len (T : Nat → Nat → Bool) (n K D : Nat) : (prI T n K D).length ≤ K * n + D := by
  unfold prI
  have h1 := pairsL_len T n K
  have h2 := List.length_filter_le (T K) (List.range D)
  rw [List.length_range] at h2
  rw [List.length_append, List.length_map]; omega
set_option maxRecDepth 100000 in
set_option maxHeartbeats 4000000 in
theorem rpairs_any (A : Option Addr) (n c : Nat) (R : Nat → RowD) (w : World) (h : Rel w A n R) (hv : VRel n R) :
    Calls Tryd.prog 58 #[.agg #[.slice A n c]] w fun e w' => ∃ v, e = .returned v ∧ w'.ownsRow w.heap.size 78 2 v (pairsL (mat R) n n).length (pvals (pairsL (mat R) n n)) ∧ Below w.heap.size w w' := by
  have HH := Lib.hid h
  have HV := Lib.hid hv
  have hn := hv.1
  have b0 := below_new w (.cells #[.slice A n c] 24)
  have c0 := (relAt_new w A n c).c0
  have HTB := Lib.hid (rtable_any A n c R _ (HH.out.below b0) HV.out)
  unfold TabOk at HTB
  clear h hv
  go_enter Tryd.func58, Tryd.ntmps58
  go_wp2_with fail
  refine HTB.out.mono ?_; rintro e w2 ⟨vt, Bl, Cl, rfl, hBT, b2⟩
  obtain ⟨At, ct, rfl⟩ := hBT.form
  have HT := Lib.hid hBT
  have B2 := below_next b0 b2
  clear hBT HTB b0 b2 c0
  generalize hT9 : mat R = T at *
  have HST : Hid (∀ i, i < n → ∀ j, j < n → ∀ u, Below w2.heap.size w2 u → ∃ g, At = some ⟨g, 0, none⟩ ∧ u.cell? ⟨g, i, none⟩ = some (.slice (some ⟨Bl i, 0, none⟩) n (Cl i)) ∧ u.cell? ⟨Bl i, j, none⟩ = some (.bool (T i j))) := Lib.hid fun i hi j hj u hu => by
    have hb := HT.out.below hu
    obtain ⟨g, hA, _, x0⟩ := hb.cell hi
    exact ⟨g, hA, x0, (hb.r i hi).cell hj⟩
  have hnn : n * n ≤ 512 * 512 := Nat.mul_le_mul hn hn
  have hsz := B2.size
  go_wp2_with fail
  go_loopw [4, 5, 6] (fun x i _ wr => ∃ (K : Nat) (v : Value), K ≤ n ∧ i = .int .i64 K ∧ v = x ∧ wr.ownsRow w2.heap.size 78 2 v (pairsL T n K).length (pvals (pairsL T n K)) ∧ Below w2.heap.size w2 wr) (fun _ i _ _ => n - (intOf i).toNat)
  case atStart => exact ⟨0, _, Nat.zero_le _, rfl, rfl, World.ownsRow_nil _ _ _ _, Below.refl _ _⟩
  case round =>
    obtain ⟨K, pv, hK, rfl, rfl, hown, hB⟩ := hrel
    by_cases hlt : K < n
    · have hKn : K * n + n ≤ 1000000 := by
        have := Nat.mul_le_mul_right n (show K + 1 ≤ n by omega)
        rw [Nat.succ_mul] at this; omega
      have hst : Hid (pairsL T n (K + 1) = prI T n K n) := Lib.hid rfl
      have hs0 : Hid (pairsL T n K = prI T n K 0) := Lib.hid (by unfold prI; simp)
      rw [hs0.out] at hown
      go_wp2_with fail
      go_loopw [4, 6] (fun x j wr => ∃ (D : Nat) (v : Value), D ≤ n ∧ j = .int .i64 D ∧ v = x ∧ wr.ownsRow w2.heap.size 78 2 v (prI T n K D).length (pvals (prI T n K D)) ∧ Below w2.heap.size w2 wr) (fun _ j _ => n - (intOf j).toNat)
      case atStart => exact ⟨0, _, Nat.zero_le _, rfl, rfl, hown, hB⟩
      case round =>
        clear hown hB
        obtain ⟨D, pv, hD, rfl, rfl, hown, hB⟩ := hrel
        by_cases hlt2 : D < n
        · obtain ⟨g, rfl, x0, x1⟩ := HST.out K hlt D hlt2 _ hB
          have hll := prI_len T n K D
          obtain ⟨v0, hv0⟩ : ∃ v, T K D = v := ⟨_, rfl⟩
          rw [hv0] at x1
          cases v0 with
          | false =>
            have hs2 := Lib.hid (prI_no (n := n) hv0)
            clear hv0
            go_wp2_with fail
            go_roundw
            case rel => exact ⟨D + 1, pv, hlt2, by go_num, rfl, by rw [hs2.out]; exact hown, hB⟩
            case measure => simp [intOf]; omega
          | true =>
            have hs2 := Lib.hid (prI_yes (n := n) hv0)
            have hlP : (prI T n K D).length ≤ 1000000 := by omega
            have hbase := hB.size
            clear hv0 hll
            generalize prI T n K D = P2 at *
            go_wp2_with (at_builtin; refine append_pair rfl (.tmp 28) (.tmp 32) rfl w2.heap.size pv P2 K D K D wr rfl hown rfl hlP hbase rfl rfl ?_)
            intro v' w5 hown5 hg5
            have bP := below_new wr (.cells #[.int .i64 (K : Int), .int .i64 (D : Int)] 78)
            have hownA := own_below hown bP
            have B5 := grown_below2 (below_next hB bP) hownA (Nat.le_refl _) hg5
            go_wp2_with fail
            go_roundw
            case rel => exact ⟨D + 1, v', hlt2, by go_num, rfl, by rw [hs2.out, List.length_append]; exact hown5, B5⟩
            case measure => simp [intOf]; omega
        · obtain rfl : D = n := by omega
          rw [← hst.out] at hown
          go_wp2_with fail
          go_roundw
          case rel => exact ⟨K + 1, pv, hlt, by go_num, rfl, hown, hB⟩
          case measure => simp [intOf]; omega
    · obtain rfl : K = n := by omega
      go_wp2_with fail
      go_ret
      subst hT9
      exact ⟨pv, rfl, own_mono hown hsz, below_next B2 hB⟩
def FltP (n : Nat) (R : Nat → RowD) (q : Int) : Prop :=
  (POrd n R ∧ (pairsL (mat R) n n).length ≤ 2000 ∧ q = 0) ∨ (POrd n R ∧ 2000 < (pairsL (mat R) n n).length ∧ q = 9) ∨ (¬ POrd n R ∧ q = 1)
set_option maxRecDepth 100000 in
theorem fault_any (A : Option Addr) (n c : Nat) (R : Nat → RowD) (q : Int) (w : World) (h : Rel w A n R) (hq : FltP n R q) :
    Calls Tryd.prog 24 #[.agg #[.slice A n c]] w fun e w' => e = .returned (.int .i64 q) ∧ Below w.heap.size w w' := by
  have HH := Lib.hid h; clear h
  have b0 := below_new w (.cells #[.slice A n c] 24)
  have r0 := relAt_new w A n c
  have c0 := r0.c0
  by_cases hP : POrd n R
  · have HC := Lib.hid (rvalid7_any A n c R true _ (HH.out.below b0) ⟨fun _ => hP, fun _ => rfl⟩)
    have HP := Lib.hid hP
    have hq2 : Hid (((pairsL (mat R) n n).length ≤ 2000 ∧ q = 0) ∨ (2000 < (pairsL (mat R) n n).length ∧ q = 9)) := Lib.hid (by
      rcases hq with ⟨_, h1, h2⟩ | ⟨_, h1, h2⟩ | ⟨h1, _⟩
      · exact .inl ⟨h1, h2⟩
      · exact .inr ⟨h1, h2⟩
      · exact absurd hP h1)
    clear hP hq
    go_enter Tryd.func24, Tryd.ntmps24
    go_wp2_with fail
    refine HC.out.mono ?_; rintro e w2 ⟨rfl, b2⟩
    have r2 := r0.below b2
    have B2 := below_next b0 b2
    have HL := Lib.hid (rpairs_any A n c R w2 (HH.out.below B2) HP.out.1)
    clear c0 r0 b0 b2 HC
    have c0 := r2.c0
    go_wp2_with fail
    refine HL.out.mono ?_; rintro e w3 ⟨v, rfl, hown, b3⟩
    obtain ⟨Av, cv, rfl, _⟩ := own_prs hown
    have B3 := below_next B2 b3
    clear hown HL c0 b3
    generalize (pairsL (mat R) n n).length = k at *
    rcases hq2.out with ⟨h1, rfl⟩ | ⟨h1, rfl⟩
    · have d1 : decide (2000 < (k : Int)) = false := decide_eq_false (by omega)
      clear h1 hq2
      go_wp2_with fail
      go_ret
      exact ⟨rfl, B3⟩
    · have d1 : decide (2000 < (k : Int)) = true := decide_eq_true (by omega)
      clear h1 hq2
      go_wp2_with fail
      go_ret
      exact ⟨rfl, B3⟩
  · have HC := Lib.hid (rvalid7_any A n c R false _ (HH.out.below b0) ⟨fun h => (by cases h), fun h => absurd h hP⟩)
    obtain rfl : q = 1 := by
      rcases hq with ⟨h1, _⟩ | ⟨h1, _⟩ | ⟨_, h1⟩
      · exact absurd h1 hP
      · exact absurd h1 hP
      · exact h1
    clear hP hq
    go_enter Tryd.func24, Tryd.ntmps24
    go_wp2_with fail
    refine HC.out.mono ?_; rintro e w2 ⟨rfl, b2⟩
    go_wp2_with fail
    go_ret
    exact ⟨rfl, below_next b0 b2⟩
theorem flt_ex (n : Nat) (R : Nat → RowD) : ∃ q, FltP n R q := by
  by_cases hP : POrd n R
  · by_cases h : (pairsL (mat R) n n).length ≤ 2000
    · exact ⟨0, .inl ⟨hP, h, rfl⟩⟩
    · exact ⟨9, .inr (.inl ⟨hP, by omega, rfl⟩)⟩
  · exact ⟨1, .inr (.inr ⟨hP, rfl⟩)⟩
theorem good_any (A : Option Addr) (n c : Nat) (R : Nat → RowD) (v : Bool) (w : World) (h : Rel w A n R) (hv : v = true ↔ POrd n R ∧ (pairsL (mat R) n n).length ≤ 2000) :
    Calls Tryd.prog 28 #[.agg #[.slice A n c]] w fun e w' => e = .returned (.bool v) ∧ Below w.heap.size w w' := by
  obtain ⟨q, hq⟩ := flt_ex n R
  have b0 := below_new w (.cells #[.slice A n c] 24)
  have c0 := (relAt_new w A n c).c0
  have HC := Lib.hid (fault_any A n c R q _ (h.below b0) hq)
  have hd : (q == 0) = v := bool_ext (by
    rw [beq_iff_eq, hv]
    rcases hq with ⟨h1, h2, h3⟩ | ⟨_, h2, h3⟩ | ⟨h1, h3⟩
    · exact ⟨fun _ => ⟨h1, h2⟩, fun _ => h3⟩
    · exact ⟨fun h => by omega, fun h => by omega⟩
    · exact ⟨fun h => by omega, fun h => absurd h.1 h1⟩)
  clear hq hv h
  go_enter Tryd.func28, Tryd.ntmps28
  go_wp2_with fail
  refine HC.out.mono ?_; rintro e w2 ⟨rfl, b2⟩
  go_wp2_with fail
  go_ret
  exact ⟨by first | rfl | rw [hd], below_next b0 b2⟩
end Go.Proofs.YtngpfondnampjaaDoor
/- WidthTimesHeight: the law's walk. -/
namespace Go.Proofs.YtngpfondnampjaaDoor
open Go.RowKit Go.Sort
theorem great3_any (A : Option Addr) (n c : Nat) (R : Nat → RowD) (v : Bool) (w : World) (h : Rel w A n R) (hv : v = true ↔ GreatP n R) :
    Calls Tryd.prog 9 #[.agg #[.slice A n c]] w fun e w' => e = .returned (.bool v) ∧ Below w.heap.size w w' := by
  by_cases hn : n ≤ 1000000
  · exact great_any A n c R v w h hn hv
  · have r0 := relAt_new w A n c
    have b0 := below_new w (.cells #[.slice A n c] 24)
    have c0 := r0.c0
    obtain rfl : v = true := hv.2 (.inr (.inl (by omega)))
    have d1 : decide (70 < (n : Int)) = true := decide_eq_true (by omega)
    have d2 : decide ((n : Int) ≤ 512) = false := decide_eq_false (by omega)
    have d3 : decide (520 < (n : Int)) = true := decide_eq_true (by omega)
    clear hv h hn
    go_enter Tryd.func9, Tryd.ntmps9
    go_wp2_with fail
    go_ret
    exact ⟨rfl, b0⟩
theorem width_good {A : Option Addr} {n c : Nat} {R : Nat → RowD} {w : World} (h : Rel w A n R) (hT : Tab w) (hP : POrd n R) (hl : (pairsL (mat R) n n).length ≤ 2000) :
    Calls Tryd.prog 20 #[.agg #[.slice A n c]] w fun e w' => e = .returned (.tuple #[.int .i64 ((n - (mL n (mat R)).length : Nat) : Int), .int .i64 0]) ∧ Below w.heap.size w w' :=
  (width_any A n c R w h (by have := hP.1.1; omega) hT).mono fun e w' he => by
    rcases he.1 with ⟨_, _, h1⟩ | ⟨_, h1, _⟩ | ⟨h1, _⟩
    · exact ⟨h1, he.2⟩
    · omega
    · exact absurd hP h1
theorem height_good {A : Option Addr} {n c : Nat} {R : Nat → RowD} {w : World} (h : Rel w A n R) (hT : Tab w) (hP : POrd n R) (hl : (pairsL (mat R) n n).length ≤ 2000) :
    Calls Tryd.prog 21 #[.agg #[.slice A n c]] w fun e w' => e = .returned (.tuple #[.int .i64 ((hgt n (mat R) : Nat) : Int), .int .i64 0]) ∧ Below w.heap.size w w' :=
  (heightF_any A n c R w h (by have := hP.1.1; omega) hT).mono fun e w' he => by
    rcases he.1 with ⟨_, _, h1⟩ | ⟨_, h1, _⟩ | ⟨h1, _⟩
    · exact ⟨h1, he.2⟩
    · omega
    · exact absurd hP h1
set_option maxRecDepth 100000 in
set_option maxHeartbeats 8000000 in
theorem wt_law (A : Option Addr) (n c : Nat) (R : Nat → RowD) (N : Int) (S : Option Addr) (ls cs : Nat) (s : Nat → Nat) (w : World) (h : Rel w A n R) (hS : Wds w S ls s) (hT : Tab w) :
    Calls Tryd.prog 6 #[.agg #[.slice A n c], .agg #[.int .i64 N, .slice S ls cs]] w fun e w' => e = .returned (.bool true) ∧ Below w.heap.size w w' := by
  have HH := Lib.hid h
  have HS := Lib.hid hS
  have r0 := (relAt_new w A n c).alloc (.cells #[.int .i64 N, .slice S ls cs] 28)
  have q0 := setAt_new (w.alloc (.cells #[.slice A n c] 24)) N S ls cs
  have hz1 : (w.alloc (.cells #[.slice A n c] 24)).heap.size = w.heap.size + 1 := by simp
  rw [hz1] at q0
  have b0 : Below w.heap.size w ((w.alloc (.cells #[.slice A n c] 24)).alloc (.cells #[.int .i64 N, .slice S ls cs] 28)) := ((Below.refl _ _).alloc (Nat.le_refl _) _).alloc (by simp) _
  obtain ⟨vg, hvg⟩ : ∃ v : Bool, v = true ↔ GreatP n R := ⟨@decide _ (Classical.propDecidable _), @decide_eq_true_iff _ (Classical.propDecidable _)⟩
  obtain ⟨vo, hvo⟩ : ∃ v : Bool, v = true ↔ POrd n R ∧ (pairsL (mat R) n n).length ≤ 2000 := ⟨@decide _ (Classical.propDecidable _), @decide_eq_true_iff _ (Classical.propDecidable _)⟩
  have HVG := Lib.hid hvg
  have HVO := Lib.hid hvo
  clear h hS hz1 hvg hvo
  go_enter Tryd.func6, Tryd.ntmps6
  go_upto_region 1 with fail
  generalize (w.alloc (.cells #[.slice A n c] 24)).alloc (.cells #[.int .i64 N, .slice S ls cs] 28) = W at *
  go_wp2_with fail
  refine (awake_any W (hT.below b0)).mono ?_; rintro e w1 ⟨rfl, b1⟩
  have r1 := r0.below b1
  have q1 := q0.below b1
  have B1 := below_next b0 b1
  clear r0 q0 b0 b1
  have c0 := r1.c0
  go_wp2_with fail
  refine (great3_any A n c R vg w1 (HH.out.below B1) HVG.out).mono ?_; rintro e w2 ⟨rfl, b2⟩
  have r2 := r1.below b2
  have q2 := q1.below b2
  have B2 := below_next B1 b2
  clear r1 q1 B1 b2 c0
  cases vg with
  | true =>
    go_wp2_with fail
    go_ret
    exact ⟨rfl, B2⟩
  | false =>
    clear HVG
    have c0 := r2.c0
    go_wp2_with fail
    refine (good_any A n c R vo w2 (HH.out.below B2) HVO.out).mono ?_; rintro e w3 ⟨rfl, b3⟩
    have r3 := r2.below b3
    have q3 := q2.below b3
    have B3 := below_next B2 b3
    clear r2 q2 B2 b3 c0
    cases vo with
    | false =>
      go_wp2_with fail
      go_ret
      exact ⟨rfl, B3⟩
    | true =>
      have hgd := Lib.hid (HVO.out.1 (by first | rfl | exact trivial))
      have hn := hgd.out.1.1.1
      clear HVO
      have c0 := r3.c0
      have s0 := q3.c0
      have s1 := q3.c1
      by_cases hv : VRow n ⟨N, S, ls, cs, s⟩
      · obtain rfl : N = n := hv.1
        obtain rfl : ls = (n + 63) / 64 := by have := hv.2.2.2.1; simpa using this
        have HVS : Hid (Vld n ((n + 63) / 64) s) := Lib.hid hv.2
        have HC := Lib.hid (set_yes n ⟨n, S, (n + 63) / 64, cs, s⟩ w3 (HS.out.below B3) hn hv)
        obtain ⟨m, hm⟩ : ∃ m, m = (List.range n).filter (bt s) := ⟨_, rfl⟩
        have hmn : m.length ≤ n := by rw [hm]; exact Nat.le_trans (List.length_filter_le _ _) (by rw [List.length_range]; exact Nat.le_refl _)
        have HPM : Hid (PartM n m) := Lib.hid ⟨fun x hx => by rw [hm] at hx; exact List.mem_range.1 (List.mem_filter.1 hx).1, by rw [hm]; exact (List.nodup_range (n := n)).sublist List.filter_sublist⟩
        have HM := Lib.hid hm
        have HRS : Hid (∀ u, Below w.heap.size w u → Calls Tryd.prog 29 #[.agg #[.slice A n c], .agg #[.int .i64 n, .slice S ((n + 63) / 64) cs]] u (RelOk u m.length (rsT (mat R) m))) := Lib.hid fun u hu => restrict_on A S n c cs R s m u (HH.out.below hu) (hT.below hu) hgd.out.1 (HS.out.below hu) HVS.out hm
        have HWI : Hid (∀ u, Below w.heap.size w u → Calls Tryd.prog 20 #[.agg #[.slice A n c]] u fun e w' => e = .returned (.tuple #[.int .i64 ((n - (mL n (mat R)).length : Nat) : Int), .int .i64 0]) ∧ Below u.heap.size u w') := Lib.hid fun u hu => width_good (HH.out.below hu) (hT.below hu) hgd.out.1 hgd.out.2
        have HHE : Hid (∀ u, Below w.heap.size w u → Calls Tryd.prog 21 #[.agg #[.slice A n c]] u fun e w' => e = .returned (.tuple #[.int .i64 ((hgt n (mat R) : Nat) : Int), .int .i64 0]) ∧ Below u.heap.size u w') := Lib.hid fun u hu => height_good (HH.out.below hu) (hT.below hu) hgd.out.1 hgd.out.2
        have f1 := n_le_wh hn hgd.out.2 hgd.out.1.2
        have f2 := h_le hgd.out.1.2
        have f3 : 0 < n → 0 < n - (mL n (mat R)).length := w_pos hn hgd.out.2 hgd.out.1.2
        have f4 : 0 < n → 0 < hgt n (mat R) := h_pos (T := mat R)
        have hn' : m.length ≤ 512 := by omega
        have HPL := Lib.hid (Nat.le_trans (part_pairs (T := mat R) HPM.out) hgd.out.2)
        have f5 := part_w HPM.out hn hgd.out.2 hgd.out.1.2 hn' HPL.out
        have f6 := part_h (T := mat R) HPM.out hgd.out.1.2
        unfold RelOk at HRS
        have f7 : n - (mL n (mat R)).length ≤ n := Nat.sub_le _ _
        obtain ⟨a, ha⟩ : ∃ a, n - (mL n (mat R)).length = a := ⟨_, rfl⟩
        obtain ⟨b, hb⟩ : ∃ b, hgt n (mat R) = b := ⟨_, rfl⟩
        obtain ⟨v, hvv⟩ : ∃ v, m.length - (mL m.length (rsT (mat R) m)).length = v := ⟨_, rfl⟩
        obtain ⟨k, hk⟩ : ∃ k, hgt m.length (rsT (mat R) m) = k := ⟨_, rfl⟩
        rw [ha] at HWI f1 f3 f5 f7
        rw [hb] at HHE f1 f2 f4 f6
        rw [hvv] at f5
        rw [hk] at f6
        have HVV := Lib.hid hvv
        have HK := Lib.hid hk
        obtain ⟨x, hx⟩ : ∃ x, a * b = x := ⟨_, rfl⟩
        have hxl : x ≤ 512 * 512 := by rw [← hx]; exact Nat.mul_le_mul (by omega) (by omega)
        have hw1 : IntKind.i64.wrap ((a : Int) * (b : Int)) = (x : Int) := by rw [show (a : Int) * (b : Int) = (x : Int) by rw [← hx]; simp]; exact IntWalk.i64_in _ (by omega)
        rw [hx] at f1
        have d1 : decide ((n : Int) ≤ (x : Int)) = true := decide_eq_true (by omega)
        have d2 : decide ((a : Int) ≤ (n : Int)) = true := decide_eq_true (by omega)
        have d3 : decide ((b : Int) ≤ (n : Int)) = true := decide_eq_true (by omega)
        have d5 : decide ((v : Int) ≤ (a : Int)) = true := decide_eq_true (by omega)
        have d6 : decide ((k : Int) ≤ (b : Int)) = true := decide_eq_true (by omega)
        have e1 : decide (n ≤ x) = true := decide_eq_true (by omega)
        have e2 : decide (a ≤ n) = true := decide_eq_true (by omega)
        have e3 : decide (b ≤ n) = true := decide_eq_true (by omega)
        have e5 : decide (v ≤ a) = true := decide_eq_true (by omega)
        have e6 : decide (k ≤ b) = true := decide_eq_true (by omega)
        obtain ⟨t, ht⟩ : ∃ t, ((n : Int) == 0) = t := ⟨_, rfl⟩
        have hta : ((a : Int) == 0) = t := by rw [← ht]; refine bool_ext ?_; rw [beq_iff_eq, beq_iff_eq]; omega
        have htb : ((b : Int) == 0) = t := by rw [← ht]; refine bool_ext ?_; rw [beq_iff_eq, beq_iff_eq]; omega
        have htt : (t == t) = true := by simp
        clear hv hm hmn f1 f2 f3 f4 f5 f6 f7 ha hb hvv hk hx hxl
        go_wp2_with fail
        refine HC.out.mono ?_; rintro e w4 ⟨rfl, b4⟩
        have r4 := r3.below b4
        have q4 := q3.below b4
        have B4 := below_next B3 b4
        clear r3 q3 B3 b4 c0 s0 s1 HC
        have c0 := r4.c0
        go_wp2_with fail
        refine (HWI.out w4 B4).mono ?_; rintro e w5 ⟨rfl, b5⟩
        have r5 := r4.below b5
        have q5 := q4.below b5
        have B5 := below_next B4 b5
        clear r4 q4 B4 b5 c0
        have c0 := r5.c0
        go_wp2_with fail
        refine (HHE.out w5 B5).mono ?_; rintro e w6 ⟨rfl, b6⟩
        have r6 := r5.below b6
        have q6 := q5.below b6
        have B6 := below_next B5 b6
        clear r5 q5 B5 b6 c0 HWI HHE
        have c0 := r6.c0
        have s0 := q6.c0
        have s1 := q6.c1
        go_wp2_with fail
        refine (HRS.out w6 B6).mono ?_; rintro e w7 ⟨A7, c7, R7, rfl, hR7, _, hV7, hM7, b7⟩
        have bx := below_new w7 (.cells #[.slice A7 m.length c7] 24)
        have rx := relAt_new w7 A7 m.length c7
        have r7 := (r6.below b7).below bx
        have B7 := below_next (below_next B6 b7) bx
        have HR7 := Lib.hid (hR7.below bx)
        have HP7 : Hid (POrd m.length R7) := Lib.hid ⟨hV7, pok_congr hM7 (part_pok HPM.out hgd.out.1.2)⟩
        have HL7 : Hid ((pairsL (mat R7) m.length m.length).length ≤ 2000) := Lib.hid (by rw [pairsL_congr _ hM7]; exact HPL.out)
        have HW7 : Hid (∀ u, Below (w7.alloc (.cells #[.slice A7 m.length c7] 24)).heap.size (w7.alloc (.cells #[.slice A7 m.length c7] 24)) u → Calls Tryd.prog 20 #[.agg #[.slice A7 m.length c7]] u fun e w' => e = .returned (.tuple #[.int .i64 (v : Int), .int .i64 0]) ∧ Below u.heap.size u w') := Lib.hid fun u hu => by
          have := width_good (c := c7) (HR7.out.below hu) ((hT.below B7).below hu) HP7.out HL7.out
          rw [mL_congr hM7, HVV.out] at this
          exact this
        have HH7 : Hid (∀ u, Below (w7.alloc (.cells #[.slice A7 m.length c7] 24)).heap.size (w7.alloc (.cells #[.slice A7 m.length c7] 24)) u → Calls Tryd.prog 21 #[.agg #[.slice A7 m.length c7]] u fun e w' => e = .returned (.tuple #[.int .i64 (k : Int), .int .i64 0]) ∧ Below u.heap.size u w') := Lib.hid fun u hu => by
          have := height_good (c := c7) (HR7.out.below hu) ((hT.below B7).below hu) HP7.out HL7.out
          rw [hgt_congr hM7, HK.out] at this
          exact this
        clear c0 s0 s1 r6 q6 B6 b7 bx hR7 hV7 hM7 HRS HR7 HP7 HL7
        go_upto_region 8 with fail
        generalize w7.heap.size = p7 at *
        generalize w7.alloc (.cells #[.slice A7 m.length c7] 24) = w8 at *
        have x0 := rx.c0
        generalize m.length = ml at *
        go_wp2_with fail
        refine (HW7.out w8 (Below.refl _ _)).mono ?_; rintro e w9 ⟨rfl, b9⟩
        have rx9 := rx.below b9
        have r9 := r7.below b9
        have B9 := below_next B7 b9
        clear x0 rx r7 B7 HW7
        have x0 := rx9.c0
        go_wp2_with fail
        refine (HH7.out w9 b9).mono ?_; rintro e w10 ⟨rfl, b10⟩
        have r10 := r9.below b10
        have B10 := below_next B9 b10
        clear x0 rx9 r9 B9 b9 HH7
        have c0 := r10.c0
        go_wp2_with fail
        go_ret
        exact ⟨rfl, B10⟩
      · have HC := Lib.hid (set_no n ⟨N, S, ls, cs, s⟩ w3 (HS.out.below B3) hn hv)
        clear hv
        go_wp2_with fail
        refine HC.out.mono ?_; rintro e w4 ⟨rfl, b4⟩
        go_wp2_with fail
        go_ret
        exact ⟨rfl, below_next B3 b4⟩
end Go.Proofs.YtngpfondnampjaaDoor
