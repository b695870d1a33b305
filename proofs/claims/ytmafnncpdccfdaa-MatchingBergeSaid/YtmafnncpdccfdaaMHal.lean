/- The contract of Hall. -/
import Derived.Test.YtmafnncpdccfdaaMTop
namespace Go.Proofs.Ytmafnncpdccfdaa
open Go.RowKit
def HallErr (w : World) (er : Int) (e : Ending) (w' : World) : Prop := e = .returned (.tuple #[.agg #[.int .i64 0, .slice none 0 0], .int .i64 er]) ∧ Below w.heap.size w w'
theorem hall_err (N M : Int) (A : Option Addr) (k c : Nat) (E : Nat → Int × Int) (w : World) (h : Prs w A k E) (hv : ¬ VG N M k E) :
    Calls Try.prog 22 #[.int .i64 N, .int .i64 M, .slice A k c] w (HallErr w 1) := by
  have HV := Lib.hid hv; clear hv
  have HH := Lib.hid h; clear h
  have s0 := setAt_new w 0 none 0 0
  have b0 := below_new w (.cells #[.int .i64 0, .slice none 0 0] 30)
  go_enter Try.func22, Try.ntmps22
  go_upto_region 1 with fail
  generalize w.alloc (.cells #[.int .i64 0, .slice none 0 0] 30) = W at *
  go_wp2_with fail
  refine (gvalid_no _ _ _ _ _ _ _ (HH.out.below b0) HV.out).mono ?_; rintro e w1 ⟨rfl, b1⟩
  have B1 := below_next b0 b1
  have u0 := s0.below b1
  have r0 := u0.c0
  have r1 := u0.c1
  have f0 := u0.free 0
  have f1 := u0.free 1
  have v0 := setAt_put (N' := (0 : Int)) (A' := none) (l' := 0) (c' := 0) u0
  have j0 := v0.c0
  have j1 := v0.c1
  have B6 := Lib.hid ((B1.setCell (p := ⟨w.heap.size, 0, none⟩) (by exact Nat.le_refl _) (.int .i64 0)).setCell (p := ⟨w.heap.size, 1, none⟩) (by exact Nat.le_refl _) (.slice none 0 0))
  clear s0 b0 b1 B1 u0 v0
  go_wp2_with fail
  refine bodyPost_ret (v := .tuple #[.agg #[.int .i64 0, .slice none 0 0], .int .i64 1]) (by simp [results, Try.results22, go_sem, j0, j1]) rfl ?_
  exact ⟨rfl, B6.out⟩
def HallOk (w : World) (n m k : Nat) (E : Nat → Int × Int) (e : Ending) (w' : World) : Prop :=
  ((prl (maxS (nbs E k) m n).L n).length = n ∧ HallErr w 7 e w') ∨
  ((prl (maxS (nbs E k) m n).L n).length ≠ n ∧ ∃ g, e = .returned (.tuple #[.agg #[.int .i64 n, .slice (some ⟨g, 0, none⟩) ((n + 63) / 64) ((n + 63) / 64)], .int .i64 0]) ∧ NewSet w w' g n (setF (tl (mleft n m k E) true n)) ∧ Below w.heap.size w w')
set_option maxRecDepth 100000 in
theorem hall_ok (n m k c : Nat) (A : Option Addr) (E : Nat → Int × Int) (w : World) (h : Prs w A k E) (hv : VG n m k E) :
    Calls Try.prog 22 #[.int .i64 n, .int .i64 m, .slice A k c] w (HallOk w n m k E) := by
  have hn := hv.n1
  have hm := hv.m1
  have HV := Lib.hid hv; clear hv
  have HH := Lib.hid h; clear h
  have s0 := setAt_new w 0 none 0 0
  have b0 := below_new w (.cells #[.int .i64 0, .slice none 0 0] 30)
  go_enter Try.func22, Try.ntmps22
  go_upto_region 1 with fail
  generalize w.alloc (.cells #[.int .i64 0, .slice none 0 0] 30) = W at *
  go_wp2_with fail
  refine (gvalid_yes _ _ _ _ _ _ _ (HH.out.below b0) HV.out).mono ?_; rintro e w1 ⟨rfl, b1⟩
  have B1 := below_next b0 b1
  go_wp2_with fail
  refine (maximum_any n m k c A E w1 (HH.out.below B1) HV.out).mono ?_; rintro e w2 ⟨gN, gL, gR, V, rfl, hG, b2⟩
  have B2 := below_next B1 b2
  have t2 := (s0.below b1).below b2
  obtain ⟨o, ho⟩ : ∃ o, o = Obj.cells #[.slice (some ⟨gN, 0, none⟩) n n, .slice (some ⟨gL, 0, none⟩) n n, .slice (some ⟨gR, 0, none⟩) m m] 55 := ⟨_, rfl⟩
  have bo := below_new w2 o
  have eo : (w2.alloc o).heap[w2.heap.size]? = some o := heap_alloc_new w2 o
  have hG2 := hG.below bo
  have t3 := t2.below bo
  have B3 := below_next B2 bo
  have hlt := s0.lt
  have hl1 := b1.size
  rw [ho] at eo hG2 t3 B3
  clear ho bo hG t2 B2 s0 b0 b1 B1 b2
  go_upto_region 4 with fail
  generalize w2.alloc (.cells #[.slice (some ⟨gN, 0, none⟩) n n, .slice (some ⟨gL, 0, none⟩) n n, .slice (some ⟨gR, 0, none⟩) m m] 55) = w3 at *
  have k0 : w3.cell? ⟨w2.heap.size, 0, none⟩ = some (.slice (some ⟨gN, 0, none⟩) n n) := cell_of_row _ _ 0 _ _ _ eo
  have k1 : w3.cell? ⟨w2.heap.size, 1, none⟩ = some (.slice (some ⟨gL, 0, none⟩) n n) := cell_of_row _ _ 1 _ _ _ eo
  have k2 : w3.cell? ⟨w2.heap.size, 2, none⟩ = some (.slice (some ⟨gR, 0, none⟩) m m) := cell_of_row _ _ 2 _ _ _ eo
  go_wp2_with fail
  refine (pairs_any n m gL n n (some ⟨gN, 0, none⟩) (some ⟨gR, 0, none⟩) m _ w3 hG2.l (by omega)).mono ?_; rintro e w4 ⟨v, rfl, hown, b4⟩
  obtain ⟨Ap, cp, rfl, _⟩ := own_prs hown
  have hG4 := hG2.below b4
  have t4 := t3.below b4
  have B4 := below_next B3 b4
  have e4 := (b4.block _ (lt_of_block eo)).trans eo
  have q0 : w4.cell? ⟨w2.heap.size, 0, none⟩ = some (.slice (some ⟨gN, 0, none⟩) n n) := cell_of_row _ _ 0 _ _ _ e4
  have q1 : w4.cell? ⟨w2.heap.size, 1, none⟩ = some (.slice (some ⟨gL, 0, none⟩) n n) := cell_of_row _ _ 1 _ _ _ e4
  have q2 : w4.cell? ⟨w2.heap.size, 2, none⟩ = some (.slice (some ⟨gR, 0, none⟩) m m) := cell_of_row _ _ 2 _ _ _ e4
  have hW4 : w.heap.size + 1 ≤ w4.heap.size := by have := t4.lt; omega
  clear k0 k1 k2 eo hG2 t3 B3 hown b4 e4
  by_cases hsz : (prl (maxS (nbs E k) m n).L n).length = n
  · have HSZ := Lib.hid hsz
    rw [hsz]
    have qq : ((n : Int) == (n : Int)) = true := by simp
    have r0 := t4.c0
    have r1 := t4.c1
    have f0 := t4.free 0
    have f1 := t4.free 1
    have v0 := setAt_put (N' := (0 : Int)) (A' := none) (l' := 0) (c' := 0) t4
    have j0 := v0.c0
    have j1 := v0.c1
    have B6 := Lib.hid ((B4.setCell (p := ⟨w.heap.size, 0, none⟩) (by exact Nat.le_refl _) (.int .i64 0)).setCell (p := ⟨w.heap.size, 1, none⟩) (by exact Nat.le_refl _) (.slice none 0 0))
    clear hsz hG4 t4 B4 v0
    go_wp2_with fail
    refine bodyPost_ret (v := .tuple #[.agg #[.int .i64 0, .slice none 0 0], .int .i64 7]) (by simp [results, Try.results22, go_sem, j0, j1]) rfl ?_
    exact .inl ⟨HSZ.out, rfl, B6.out⟩
  · have HSZ := Lib.hid hsz
    have qq : (((prl (maxS (nbs E k) m n).L n).length : Int) == (n : Int)) = false := beq_false_of_ne (by omega)
    have HG4 := Lib.hid hG4
    have HRE := Lib.hid (reached_of HV.out hG4)
    generalize hszz : (prl (maxS (nbs E k) m n).L n).length = sz at *
    have HZ := Lib.hid hszz
    clear hsz hG4 hszz
    go_wp2_with fail
    refine HRE.out.mono ?_; rintro e w5 ⟨gA, gB, rfl, hR⟩
    have B5a : Below (w.heap.size + 1) w4 w5 := hR.bl.mono (by omega)
    have t5 : SetAt w5 w.heap.size 0 none 0 0 := (B5a.block _ (by omega)).trans t4
    have B5 := B4.trans (B5a.mono (by omega))
    have hra := hR.a
    clear q0 q1 q2 t4 B4 B5a hR HRE HG4
    go_wp2_with fail
    refine (setOf_any n gA (mleft n m k E) true w5 hra (by omega)).mono ?_; rintro e w6 ⟨gX, rfl, hX, rX, b6⟩
    have B6 := below_next B5 b6
    have t6 := t5.below b6
    have hl5 := t5.lt
    have r0 := t6.c0
    have r1 := t6.c1
    have f0 := t6.free 0
    have f1 := t6.free 1
    generalize hn6 : (n + 63) / 64 = nw at *
    have HN6 := Lib.hid hn6
    have v0 := setAt_put (N' := (n : Int)) (A' := some ⟨gX, 0, none⟩) (l' := nw) (c' := nw) t6
    have j0 := v0.c0
    have j1 := v0.c1
    have hfX : gX ≠ w.heap.size := by omega
    have RX := Lib.hid ((rX.setOther (a := ⟨w.heap.size, 0, none⟩) (by exact hfX) (.int .i64 (n : Int))).setOther (a := ⟨w.heap.size, 1, none⟩) (by exact hfX) (.slice (some ⟨gX, 0, none⟩) nw nw))
    have B7 := Lib.hid ((B6.setCell (p := ⟨w.heap.size, 0, none⟩) (by exact Nat.le_refl _) (.int .i64 (n : Int))).setCell (p := ⟨w.heap.size, 1, none⟩) (by exact Nat.le_refl _) (.slice (some ⟨gX, 0, none⟩) nw nw))
    clear t5 t6 v0 rX hra B5 B6 b6
    go_wp2_with fail
    refine bodyPost_ret (v := .tuple #[.agg #[.int .i64 n, .slice (some ⟨gX, 0, none⟩) nw nw], .int .i64 0]) (by simp [results, Try.results22, go_sem, j0, j1]) rfl ?_
    exact .inr ⟨by rw [HZ.out]; exact HSZ.out, gX, by rw [HN6.out], ⟨by omega, by rw [HN6.out]; exact RX.out⟩, B7.out⟩
end Go.Proofs.Ytmafnncpdccfdaa
