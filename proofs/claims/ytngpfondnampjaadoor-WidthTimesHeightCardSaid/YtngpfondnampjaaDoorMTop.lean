/- Matching, ported: MTop. -/
import Derived.Test.YtngpfondnampjaaDoorMRch
namespace Go.Proofs.YtngpfondnampjaaDoor
open Go.RowKit
theorem gvalid_yes (N M : Int) (A : Option Addr) (k c : Nat) (E : Nat → Int × Int) (w : World) (h : Prs w A k E) (hv : VG N M k E) :
    Calls Tryd.prog 77 #[.int .i64 N, .int .i64 M, .slice A k c] w fun e w' => e = .returned (.bool true) ∧ Below w.heap.size w w' := by
  refine valid_loop N M A k c E k true w h hv.n0 hv.n1 hv.m0 hv.m1 hv.k2 (Nat.le_refl _) hv.ran (.inr ⟨rfl, ?_⟩)
  have hsz : Maps.size (tab E k) = k := (tab_size E k).2.2 fun i j hij hj e => hv.one i j hij hj (pkey_inj (hv.wf (by omega)) (hv.wf hj) e)
  rw [hsz]; simp
theorem gvalid_no (N M : Int) (A : Option Addr) (k c : Nat) (E : Nat → Int × Int) (w : World) (h : Prs w A k E) (hv : ¬ VG N M k E) :
    Calls Tryd.prog 77 #[.int .i64 N, .int .i64 M, .slice A k c] w fun e w' => e = .returned (.bool false) ∧ Below w.heap.size w w' := by
  by_cases hn : 0 ≤ N ∧ N ≤ 512
  · by_cases hm : 0 ≤ M ∧ M ≤ 512
    · by_cases hk : k ≤ 2000
      · by_cases hr : ∀ i, i < k → InE N M (E i)
        · refine valid_loop N M A k c E k false w h hn.1 hn.2 hm.1 hm.2 hk (Nat.le_refl _) hr (.inr ⟨rfl, beq_false_of_ne fun e => hv ⟨hn.1, hn.2, hm.1, hm.2, hk, hr, fun i j hij hj e2 => ?_⟩⟩)
          exact (tab_size E k).2.1 (by omega) i j hij hj (by rw [e2])
        · obtain ⟨J, h1, h2, h3⟩ := first_not hr
          exact valid_loop N M A k c E J false w h hn.1 hn.2 hm.1 hm.2 hk (by omega) h3 (.inl ⟨h1, rfl, h2⟩)
      · have d3 : decide (2000 < (k : Int)) = true := decide_eq_true (by omega)
        obtain ⟨n0, n1⟩ := hn
        obtain ⟨m0, m1⟩ := hm
        clear hv h hk
        go_enter Tryd.func77, Tryd.ntmps77
        go_wp2_with fail
        refine (mSize_yes N _ n0 n1).mono ?_; rintro e w' ⟨rfl, rfl⟩
        go_wp2_with fail
        refine (mSize_yes M _ m0 m1).mono ?_; rintro e w' ⟨rfl, rfl⟩
        go_wp2_with fail
        go_ret
        exact ⟨rfl, Below.refl _ _⟩
    · have hb : Hid (M < 0 ∨ 512 < M) := (by show _ ∨ _; omega)
      obtain ⟨n0, n1⟩ := hn
      clear hv h hm
      go_enter Tryd.func77, Tryd.ntmps77
      go_wp2_with fail
      refine (mSize_yes N _ n0 n1).mono ?_; rintro e w' ⟨rfl, rfl⟩
      go_wp2_with fail
      refine (mSize_no M _ hb.out).mono ?_; rintro e w' ⟨rfl, rfl⟩
      go_wp2_with fail
      go_ret
      exact ⟨rfl, Below.refl _ _⟩
  · have hb : Hid (N < 0 ∨ 512 < N) := (by show _ ∨ _; omega)
    clear hv h hn
    go_enter Tryd.func77, Tryd.ntmps77
    go_wp2_with fail
    refine (mSize_no N _ hb.out).mono ?_; rintro e w' ⟨rfl, rfl⟩
    go_wp2_with fail
    go_ret
    exact ⟨rfl, Below.refl _ _⟩
def MaxOk (w : World) (l : List (Int × Int)) (e : Ending) (w' : World) : Prop :=
  ∃ v, e = .returned (.tuple #[v, .int .i64 0]) ∧ w'.ownsRow w.heap.size 78 2 v l.length (pvals5 l) ∧ Below w.heap.size w w'
theorem max_ok (n m k c : Nat) (A : Option Addr) (E : Nat → Int × Int) (w : World) (h : Prs w A k E) (hv : VG n m k E) :
    Calls Tryd.prog 75 #[.int .i64 n, .int .i64 m, .slice A k c] w (MaxOk w (prl (maxS (nbs E k) m n).L n)) := by
  have hn := hv.n1
  have HV := Lib.hid hv; clear hv
  have HH := Lib.hid h; clear h
  go_enter Tryd.func75, Tryd.ntmps75
  go_wp2_with fail
  refine (gvalid_yes _ _ _ _ _ _ _ HH.out HV.out).mono ?_; rintro e w1 ⟨rfl, b1⟩
  go_wp2_with fail
  refine (maximum_any n m k c A E w1 (HH.out.below b1) HV.out).mono ?_; rintro e w2 ⟨gN, gL, gR, V, rfl, hG, b2⟩
  go_wp2_with fail
  refine (pairs_any n m gL n n (some ⟨gN, 0, none⟩) (some ⟨gR, 0, none⟩) m _ w2 hG.l (by omega)).mono ?_; rintro e w3 ⟨v, rfl, hown, b3⟩
  go_wp2_with fail
  go_ret2
  exact ⟨v, rfl, own_mono hown (by have := b1.size; have := b2.size; omega), below_next (below_next b1 b2) b3⟩
theorem max_err (N M : Int) (A : Option Addr) (k c : Nat) (E : Nat → Int × Int) (w : World) (h : Prs w A k E) (hv : ¬ VG N M k E) :
    Calls Tryd.prog 75 #[.int .i64 N, .int .i64 M, .slice A k c] w fun e w' => e = .returned (.tuple #[.slice none 0 0, .int .i64 1]) ∧ Below w.heap.size w w' := by
  have HV := Lib.hid hv; clear hv
  have HH := Lib.hid h; clear h
  go_enter Tryd.func75, Tryd.ntmps75
  go_wp2_with fail
  refine (gvalid_no _ _ _ _ _ _ _ HH.out HV.out).mono ?_; rintro e w1 ⟨rfl, b1⟩
  go_wp2_with fail
  go_ret2
  exact ⟨rfl, b1⟩
/- what maximum leaves, for reached -/
theorem maxM {n m k : Nat} {E : Nat → Int × Int} (hv : VG n m k E) : Mat n m (nbs E k) (maxS (nbs E k) m n) := (maxI (n := n) (fun a b hb => by have := nbs_mem hv k (Nat.le_refl _) a b hb; omega) n (Nat.le_refl _)).mat
theorem vg_nb {n m k : Nat} {E : Nat → Int × Int} (hv : VG n m k E) : ∀ a b, b ∈ nbs E k a → b < m := fun a b hb => by have := nbs_mem hv k (Nat.le_refl _) a b hb; omega
theorem vg_len {n m k : Nat} {E : Nat → Int × Int} (hv : VG n m k E) : ∀ a, (nbs E k a).length ≤ 2000 := fun a => Nat.le_trans (nbs_len E k a) hv.k2
def mseen (n m k : Nat) (E : Nat → Int × Int) : Nat → Bool := (rS (nbs E k) m (maxS (nbs E k) m n) n).seen
def mleft (n m k : Nat) (E : Nat → Int × Int) : Nat → Bool := lfR (maxS (nbs E k) m n).L (mseen n m k E)
theorem reached_of {lim base n m k gN gL gR : Nat} {E : Nat → Int × Int} {V : Nat → Value} {w : World} (hv : VG n m k E) (h : GA lim base w n m gN gL gR (nbs E k) V (maxS (nbs E k) m n).L (maxS (nbs E k) m n).R) :
    Calls Tryd.prog 79 #[.agg #[.slice (some ⟨gN, 0, none⟩) n n, .slice (some ⟨gL, 0, none⟩) n n, .slice (some ⟨gR, 0, none⟩) m m]] w (fun e w' => ∃ gA gB, e = .returned (.tuple #[.slice (some ⟨gA, 0, none⟩) n n, .slice (some ⟨gB, 0, none⟩) m m]) ∧ ReEnd w lim n m (maxS (nbs E k) m n).L (mseen n m k E) gA gB w') := by
  obtain ⟨C, hC, hF⟩ := maxC (n := n) (vg_nb hv) n (Nat.le_refl _)
  have hn := hv.n1
  have hm := hv.m1
  exact reached_any lim base n m gN gL gR (nbs E k) V (maxS (nbs E k) m n) w h (vg_len hv) (vg_nb hv) (by omega) (by omega) (maxM hv) hC hF
/- a set that was made -/
def NewSet (w0 w : World) (g n : Nat) (f : Nat → Nat) : Prop := w0.heap.size ≤ g ∧ w.rowIs g 60 ((n + 63) / 64) (fun k => .int .u64 (f k : Nat))
def CovOk (w : World) (n m : Nat) (f h : Nat → Nat) (e : Ending) (w' : World) : Prop :=
  ∃ gX gY, e = .returned (.tuple #[.agg #[.int .i64 n, .slice (some ⟨gX, 0, none⟩) ((n + 63) / 64) ((n + 63) / 64)], .agg #[.int .i64 m, .slice (some ⟨gY, 0, none⟩) ((m + 63) / 64) ((m + 63) / 64)], .int .i64 0]) ∧
    NewSet w w' gX n f ∧ NewSet w w' gY m h ∧ Below w.heap.size w w'
set_option maxRecDepth 100000 in
theorem cover_ok (n m k c : Nat) (A : Option Addr) (E : Nat → Int × Int) (w : World) (h : Prs w A k E) (hv : VG n m k E) :
    Calls Tryd.prog 54 #[.int .i64 n, .int .i64 m, .slice A k c] w (CovOk w n m (setF (tl (mleft n m k E) false n)) (setF (tl (mseen n m k E) true m))) := by
  have hn := hv.n1
  have hm := hv.m1
  have HV := Lib.hid hv; clear hv
  have HH := Lib.hid h; clear h
  have s0 := (setAt_new w 0 none 0 0).alloc (.cells #[.int .i64 0, .slice none 0 0] 28)
  have s1 := setAt_new (w.alloc (.cells #[.int .i64 0, .slice none 0 0] 28)) 0 none 0 0
  have b0 := below_next (below_new w (.cells #[.int .i64 0, .slice none 0 0] 28)) (below_new (w.alloc (.cells #[.int .i64 0, .slice none 0 0] 28)) (.cells #[.int .i64 0, .slice none 0 0] 28))
  rw [show (w.alloc (.cells #[.int .i64 0, .slice none 0 0] 28)).heap.size = w.heap.size + 1 by simp] at s1
  go_enter Tryd.func54, Tryd.ntmps54
  go_upto_region 1 with fail
  generalize (w.alloc (.cells #[.int .i64 0, .slice none 0 0] 28)).alloc (.cells #[.int .i64 0, .slice none 0 0] 28) = W at *
  go_wp2_with fail
  refine (gvalid_yes _ _ _ _ _ _ _ (HH.out.below b0) HV.out).mono ?_; rintro e w1 ⟨rfl, b1⟩
  have B1 := below_next b0 b1
  go_wp2_with fail
  refine (maximum_any n m k c A E w1 (HH.out.below B1) HV.out).mono ?_; rintro e w2 ⟨gN, gL, gR, V, rfl, hG, b2⟩
  have B2 := below_next B1 b2
  go_wp2_with fail
  refine (reached_of HV.out hG).mono ?_; rintro e w3 ⟨gA, gB, rfl, hR⟩
  have hz1 := s1.lt
  have b12 := b1.size
  have B3 : Below (w.heap.size + 2) w2 w3 := hR.bl.mono (by omega)
  have BW : Below (w.heap.size + 2) W w2 := (b1.mono (by omega)).trans (b2.mono (by omega))
  have BW3 := BW.trans B3
  have t0 : SetAt w3 w.heap.size 0 none 0 0 := (BW3.block _ (by omega)).trans s0
  have t1 : SetAt w3 (w.heap.size + 1) 0 none 0 0 := (BW3.block _ (by omega)).trans s1
  have B3' := B2.trans (B3.mono (by omega))
  have hra := hR.a
  have hrb := hR.b
  clear s0 s1 b0 b1 B1 b2 B2 hG hR BW BW3 B3
  go_upto_region 4 with fail
  go_wp2_with fail
  refine (setOf_any n gA (mleft n m k E) false w3 hra (by omega)).mono ?_; rintro e w4 ⟨gX, rfl, hX, rX, b4⟩
  have B4 := below_next B3' b4
  go_wp2_with fail
  refine (setOf_any m gB (mseen n m k E) true w4 (row_below hrb b4) (by omega)).mono ?_; rintro e w5 ⟨gY, rfl, hY, rY, b5⟩
  have B5 := below_next B4 b5
  have u0 := (t0.below b4).below b5
  have u1 := (t1.below b4).below b5
  have rX5 := row_below rX b5
  have l0 := t0.lt
  have l1 := t1.lt
  have l4 := b4.size
  have r0 := u0.c0
  have r1 := u0.c1
  have f0 := u0.free 0
  have f1 := u0.free 1
  generalize hn6 : (n + 63) / 64 = nw at *
  generalize hm6 : (m + 63) / 64 = mw at *
  have HN6 := Lib.hid hn6
  have HM6 := Lib.hid hm6
  have v0 := setAt_put (N' := (n : Int)) (A' := some ⟨gX, 0, none⟩) (l' := nw) (c' := nw) u0
  have v1 := (u1.far (q := ⟨w.heap.size, 0, none⟩) (by show w.heap.size + 1 ≠ w.heap.size; omega) (.int .i64 (n : Int))).far (q := ⟨w.heap.size, 1, none⟩) (by show w.heap.size + 1 ≠ w.heap.size; omega) (.slice (some ⟨gX, 0, none⟩) nw nw)
  have x0 := v1.c0
  have x1 := v1.c1
  have g0 := v1.free 0
  have g1 := v1.free 1
  have y1 := setAt_put (N' := (m : Int)) (A' := some ⟨gY, 0, none⟩) (l' := mw) (c' := mw) v1
  have y0 := (v0.far (q := ⟨w.heap.size + 1, 0, none⟩) (by show w.heap.size ≠ w.heap.size + 1; omega) (.int .i64 (m : Int))).far (q := ⟨w.heap.size + 1, 1, none⟩) (by show w.heap.size ≠ w.heap.size + 1; omega) (.slice (some ⟨gY, 0, none⟩) mw mw)
  have j0 := y0.c0
  have j1 := y0.c1
  have j2 := y1.c0
  have j3 := y1.c1
  have hfX : gX ≠ w.heap.size ∧ gX ≠ w.heap.size + 1 := by omega
  have hfY : gY ≠ w.heap.size ∧ gY ≠ w.heap.size + 1 := by omega
  have RX := Lib.hid ((((rX5.setOther (a := ⟨w.heap.size, 0, none⟩) (by exact hfX.1) (.int .i64 (n : Int))).setOther (a := ⟨w.heap.size, 1, none⟩) (by exact hfX.1) (.slice (some ⟨gX, 0, none⟩) nw nw)).setOther (a := ⟨w.heap.size + 1, 0, none⟩) (by exact hfX.2) (.int .i64 (m : Int))).setOther (a := ⟨w.heap.size + 1, 1, none⟩) (by exact hfX.2) (.slice (some ⟨gY, 0, none⟩) mw mw))
  have RY := Lib.hid ((((rY.setOther (a := ⟨w.heap.size, 0, none⟩) (by exact hfY.1) (.int .i64 (n : Int))).setOther (a := ⟨w.heap.size, 1, none⟩) (by exact hfY.1) (.slice (some ⟨gX, 0, none⟩) nw nw)).setOther (a := ⟨w.heap.size + 1, 0, none⟩) (by exact hfY.2) (.int .i64 (m : Int))).setOther (a := ⟨w.heap.size + 1, 1, none⟩) (by exact hfY.2) (.slice (some ⟨gY, 0, none⟩) mw mw))
  have B6 := Lib.hid ((((B5.setCell (p := ⟨w.heap.size, 0, none⟩) (by exact Nat.le_refl _) (.int .i64 (n : Int))).setCell (p := ⟨w.heap.size, 1, none⟩) (by exact Nat.le_refl _) (.slice (some ⟨gX, 0, none⟩) nw nw)).setCell (p := ⟨w.heap.size + 1, 0, none⟩) (by exact Nat.le_succ _) (.int .i64 (m : Int))).setCell (p := ⟨w.heap.size + 1, 1, none⟩) (by exact Nat.le_succ _) (.slice (some ⟨gY, 0, none⟩) mw mw))
  clear t0 t1 u0 u1 v0 v1 y0 y1 rX rX5 rY hra hrb B3' B4 B5 b4 b5
  go_wp2_with fail
  refine bodyPost_ret (v := .tuple #[.agg #[.int .i64 n, .slice (some ⟨gX, 0, none⟩) nw nw], .agg #[.int .i64 m, .slice (some ⟨gY, 0, none⟩) mw mw], .int .i64 0]) (by simp [results, Tryd.results54, go_sem, j0, j1, j2, j3]) rfl ?_
  exact ⟨gX, gY, by rw [HN6.out, HM6.out], ⟨by omega, by rw [HN6.out]; exact RX.out⟩, ⟨by omega, by rw [HM6.out]; exact RY.out⟩, B6.out⟩
def CovErr (w : World) (e : Ending) (w' : World) : Prop := e = .returned (.tuple #[.agg #[.int .i64 0, .slice none 0 0], .agg #[.int .i64 0, .slice none 0 0], .int .i64 1]) ∧ Below w.heap.size w w'
theorem cover_err (N M : Int) (A : Option Addr) (k c : Nat) (E : Nat → Int × Int) (w : World) (h : Prs w A k E) (hv : ¬ VG N M k E) :
    Calls Tryd.prog 54 #[.int .i64 N, .int .i64 M, .slice A k c] w (CovErr w) := by
  have HV := Lib.hid hv; clear hv
  have HH := Lib.hid h; clear h
  have s0 := (setAt_new w 0 none 0 0).alloc (.cells #[.int .i64 0, .slice none 0 0] 28)
  have s1 := setAt_new (w.alloc (.cells #[.int .i64 0, .slice none 0 0] 28)) 0 none 0 0
  have b0 := below_next (below_new w (.cells #[.int .i64 0, .slice none 0 0] 28)) (below_new (w.alloc (.cells #[.int .i64 0, .slice none 0 0] 28)) (.cells #[.int .i64 0, .slice none 0 0] 28))
  rw [show (w.alloc (.cells #[.int .i64 0, .slice none 0 0] 28)).heap.size = w.heap.size + 1 by simp] at s1
  go_enter Tryd.func54, Tryd.ntmps54
  go_upto_region 1 with fail
  generalize (w.alloc (.cells #[.int .i64 0, .slice none 0 0] 28)).alloc (.cells #[.int .i64 0, .slice none 0 0] 28) = W at *
  go_wp2_with fail
  refine (gvalid_no _ _ _ _ _ _ _ (HH.out.below b0) HV.out).mono ?_; rintro e w1 ⟨rfl, b1⟩
  have B1 := below_next b0 b1
  have u0 := s0.below b1
  have u1 := s1.below b1
  have r0 := u0.c0
  have r1 := u0.c1
  have r2 := u1.c0
  have r3 := u1.c1
  have f0 := u0.free 0
  have f1 := u0.free 1
  have f2 := u1.free 0
  have f3 := u1.free 1
  have v0 := setAt_put (N' := (0 : Int)) (A' := none) (l' := 0) (c' := 0) u0
  have v1 := (u1.far (q := ⟨w.heap.size, 0, none⟩) (by show w.heap.size + 1 ≠ w.heap.size; omega) (.int .i64 0)).far (q := ⟨w.heap.size, 1, none⟩) (by show w.heap.size + 1 ≠ w.heap.size; omega) (.slice none 0 0)
  have x0 := v1.c0
  have x1 := v1.c1
  have g0 := v1.free 0
  have g1 := v1.free 1
  have y1 := setAt_put (N' := (0 : Int)) (A' := none) (l' := 0) (c' := 0) v1
  have y0 := (v0.far (q := ⟨w.heap.size + 1, 0, none⟩) (by show w.heap.size ≠ w.heap.size + 1; omega) (.int .i64 0)).far (q := ⟨w.heap.size + 1, 1, none⟩) (by show w.heap.size ≠ w.heap.size + 1; omega) (.slice none 0 0)
  have j0 := y0.c0
  have j1 := y0.c1
  have j2 := y1.c0
  have j3 := y1.c1
  have B6 := Lib.hid ((((B1.setCell (p := ⟨w.heap.size, 0, none⟩) (by exact Nat.le_refl _) (.int .i64 0)).setCell (p := ⟨w.heap.size, 1, none⟩) (by exact Nat.le_refl _) (.slice none 0 0)).setCell (p := ⟨w.heap.size + 1, 0, none⟩) (by exact Nat.le_succ _) (.int .i64 0)).setCell (p := ⟨w.heap.size + 1, 1, none⟩) (by exact Nat.le_succ _) (.slice none 0 0))
  clear s0 s1 b0 b1 B1 u0 u1 v0 v1 y0 y1
  go_wp2_with fail
  refine bodyPost_ret (v := .tuple #[.agg #[.int .i64 0, .slice none 0 0], .agg #[.int .i64 0, .slice none 0 0], .int .i64 1]) (by simp [results, Tryd.results54, go_sem, j0, j1, j2, j3]) rfl ?_
  exact ⟨rfl, B6.out⟩
end Go.Proofs.YtngpfondnampjaaDoor
