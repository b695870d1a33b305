/- The contracts of package bits: combine, Union, Minus. -/
import Derived.Test.YtngpfondnampjaaDoorBitA
import Derived.Test.YtngpfondnampjaaDoorBitC
namespace Go.Proofs.YtngpfondnampjaaDoor
open Go.RowKit
theorem two_res_set {w wr : World} {N M : Int} {A B : Option Addr} {la ca lb cb g : Nat} (h : TwoR w wr N M A B la ca lb cb) (hg : w.heap.size + 3 ≤ g) (k : Nat) (u : Value) : TwoR w (wr.setCell ⟨g, k, none⟩ u) N M A B la ca lb cb := by
  refine ⟨⟨h.two.s.far (by show w.heap.size ≠ g; omega) _, h.two.t.far (by show w.heap.size + 1 ≠ g; omega) _, h.two.b.setCell (by show w.heap.size ≤ g; omega) _⟩, ?_⟩
  obtain ⟨x, y, hb⟩ := h.r
  exact ⟨x, y, (Below.heap_setCell wr ⟨g, k, none⟩ u (w.heap.size + 2) (by show w.heap.size + 2 ≠ g; omega)).trans hb⟩
/- what the new words are while k of them have been combined -/
def part (op : Nat → Nat → Nat) (f g : Nat → Nat) (K : Nat) : Nat → Nat := fun k => if k < K then op (f k) (g k) else 0
def comb (op : Nat → Nat → Nat) (f g : Nat → Nat) : Nat → Nat := fun k => op (f k) (g k)
set_option maxHeartbeats 4000000 in
theorem combine61 (N : Nat) (A B : Option Addr) (m ca cb : Nat) (f g : Nat → Nat) (w : World) (ha : Wds w A m f) (hb : Wds w B m g) (va : Vld N m f) (vb : Vld N m g) :
    Calls Tryd.prog 72 #[.agg #[.int .i64 N, .slice A m ca], .agg #[.int .i64 N, .slice B m cb], .func (Fn.func 81) #[] #[]] w (SetOk w N m (comb orW f g)) := by
  have h1 := va.2.1
  have h2 := va.2.2.1
  simp only [Int.toNat_natCast] at h2
  have hm9 : m ≤ 9 := by omega
  have H2 := Lib.hid h2; clear h2
  have hmk := make_words m hm9
  have HA := Lib.hid ha; clear ha
  have HB := Lib.hid hb; clear hb
  have VA := Lib.hid va; clear va
  have VB := Lib.hid vb; clear vb
  have hR0 := twoR_new w N N A B m ca m cb
  go_enter Tryd.func72, Tryd.ntmps72
  go_wp2_with fail
  refine (cmp_yes _ _ _ _ _ _ _ _ _ _ (HA.out.below hR0.two.b) (HB.out.below hR0.two.b) VA.out VB.out).mono ?_; rintro e w2 ⟨rfl, b2⟩
  have hR2 := hR0.next b2
  clear hR0 b2
  have c0 := hR2.two.s.c0
  have c1 := hR2.two.s.c1
  have hg2 := hR2.r.lt
  go_wp2_with fail
  clear hmk c0 c1
  have hrow0 := World.rowIs_made w2 (.int .u64 0) m 60
  have hR3 := hR2.alloc (.cells (madeCells #[.int .u64 0] m) 60)
  clear hR2
  generalize hgg : w2.heap.size = G at *
  have HG := Lib.hid hgg; clear hgg
  go_loopw [9, 21] (fun x i wr => ∃ K : Nat, K ≤ m ∧ i = .int .i64 K ∧ wr.rowIs G 60 m (fun k => .int .u64 (part orW f g K k : Nat)) ∧ TwoR w wr N N A B m ca m cb) (fun _ i _ => m - (intOf i).toNat)
  case atStart => exact ⟨0, by omega, rfl, hrow0, hR3⟩
  case round =>
    clear hrow0 hR3
    obtain ⟨K, hK, rfl, hrow, hR⟩ := hrel
    by_cases hlt : K < m
    · have HA2 := HA.out.below hR.two.b
      have HB2 := HB.out.below hR.two.b
      obtain ⟨b1, o1, rfl, hb1, hc1⟩ := HA2.2 (by omega)
      obtain ⟨b2, o2, rfl, hb2, hc2⟩ := HB2.2 (by omega)
      have x1 := hc1 K hlt
      have x2 := hc2 K hlt
      have hf64 := HA2.1 K hlt
      have hg64 := HB2.1 K hlt
      clear hc1 hc2 HA2 HB2
      have c1 := hR.two.s.c1
      have d1 := hR.two.t.c1
      have y1 := hrow.cell (i := K) hlt
      have yf := hrow.frozen K
      have hrowS := hrow.set K (.int .u64 (orW (f K) (g K) : Nat))
      have HROW := Lib.hid hrowS; clear hrowS
      have hi0 : (0 : Int) ≤ (K : Int) := by omega
      have hi1 : (K : Int) < (m : Int) := by omega
      have hcl : ∀ w, Calls Tryd.prog 81 #[.int .u64 (f K : Nat), .int .u64 (g K : Nat)] w fun e w' => e = .returned (.int .u64 (orW (f K) (g K) : Nat)) ∧ w = w' := fun w => cl61 (f K) (g K) w hf64 hg64
      have HCL := Lib.hid hcl; clear hcl
      go_wp2_with fail
      go_region_with (go_at_call 81; with_reducible refine (HCL.out _).mono ?_; rintro e w' ⟨rfl, rfl⟩)
      all_goals
        clear x1 x2 c1 d1 y1 yf
        go_wp2_with fail
        go_roundw
        case rel =>
          have hR4 := two_res_set hR (g := G) (by omega) K (.int .u64 (orW (f K) (g K) : Nat))
          refine ⟨K + 1, by omega, by go_num, ?_, hR4.drew⟩
          refine HROW.out.drew.congr fun k _ => ?_
          unfold part
          by_cases e : k = K
          · subst e; rw [if_pos rfl, if_pos (by omega)]
          · rw [if_neg e]
            by_cases h3 : k < K
            · rw [if_pos h3, if_pos (by omega)]
            · rw [if_neg h3, if_neg (by omega)]
        case measure => simp [intOf]; omega
    · obtain rfl : K = m := by omega
      have c0 := hR.two.s.c0
      obtain ⟨r0, r1, f0, f1⟩ := hR.r.cells
      have hR5 := TwoR.stored hR (.int .i64 N) (.slice (some ⟨G, 0, none⟩) K K)
      go_wp2_with fail
      clear r0 r1 c0
      obtain ⟨q0, q1⟩ := hR5.r.stored
      refine bodyPost_ret (v := .tuple #[.agg #[.int .i64 N, .slice (some ⟨G, 0, none⟩) K K], .int .i64 0]) (by simp [results, Tryd.results72, go_sem, q0, q1]) rfl ?_
      have hne : G ≠ w.heap.size + 2 := by omega
      refine ⟨G, rfl, by omega, ?_, hR5.two.b⟩
      refine ((hrow.setOther (a := ⟨w.heap.size + 2, 0, none⟩) hne _).setOther (a := ⟨w.heap.size + 2, 1, none⟩) hne _).congr fun k hk => ?_
      unfold part comb
      rw [if_pos hk]
theorem combine_err61 (N M : Int) (A B : Option Addr) (la ca lb cb : Nat) (f g : Nat → Nat) (w : World) (ha : Wds w A la f) (hb : Wds w B lb g) (h : ¬ (Vld N la f ∧ Vld M lb g ∧ N = M)) :
    Calls Tryd.prog 72 #[.agg #[.int .i64 N, .slice A la ca], .agg #[.int .i64 M, .slice B lb cb], .func (Fn.func 81) #[] #[]] w (SetErr w 1) := by
  have HA := Lib.hid ha; clear ha
  have HB := Lib.hid hb; clear hb
  have HN := Lib.hid h; clear h
  have hR0 := twoR_new w N M A B la ca lb cb
  go_enter Tryd.func72, Tryd.ntmps72
  go_wp2_with fail
  refine (cmp_no _ _ _ _ _ _ _ _ _ _ _ (HA.out.below hR0.two.b) (HB.out.below hR0.two.b) HN.out).mono ?_; rintro e w2 ⟨rfl, b2⟩
  have hR2 := hR0.next b2
  obtain ⟨r0, r1, f0, f1⟩ := hR2.r.cells
  have hR3 := TwoR.stored hR2 (.int .i64 0) (.slice none 0 0)
  go_wp2_with fail
  clear r0 r1
  obtain ⟨q0, q1⟩ := hR3.r.stored
  refine bodyPost_ret (v := .tuple #[.agg #[.int .i64 0, .slice none 0 0], .int .i64 1]) (by simp [results, Tryd.results72, go_sem, q0, q1]) rfl ?_
  exact ⟨rfl, hR3.two.b⟩
theorem unionB_any (N : Nat) (A B : Option Addr) (m ca cb : Nat) (f g : Nat → Nat) (w : World) (ha : Wds w A m f) (hb : Wds w B m g) (va : Vld N m f) (vb : Vld N m g) :
    Calls Tryd.prog 55 #[.agg #[.int .i64 N, .slice A m ca], .agg #[.int .i64 N, .slice B m cb]] w (SetOk w N m (comb orW f g)) := by
  have HA := Lib.hid ha; clear ha
  have HB := Lib.hid hb; clear hb
  have VA := Lib.hid va; clear va
  have VB := Lib.hid vb; clear vb
  have hR0 := twoR_new w N N A B m ca m cb
  go_enter Tryd.func55, Tryd.ntmps55
  go_wp2_with fail
  refine (combine61 N A B m ca cb f g _ (HA.out.below hR0.two.b) (HB.out.below hR0.two.b) VA.out VB.out).mono ?_; rintro e w2 ⟨gg, rfl, hg, hrow, b2⟩
  have hR2 := hR0.next b2
  have hlt := hR0.r.lt
  obtain ⟨r0, r1, f0, f1⟩ := hR2.r.cells
  have hR3 := TwoR.stored hR2 (.int .i64 N) (.slice (some ⟨gg, 0, none⟩) m m)
  go_wp2_with fail
  clear r0 r1
  obtain ⟨q0, q1⟩ := hR3.r.stored
  refine bodyPost_ret (v := .tuple #[.agg #[.int .i64 N, .slice (some ⟨gg, 0, none⟩) m m], .int .i64 0]) (by simp [results, Tryd.results55, go_sem, q0, q1]) rfl ?_
  have hne : gg ≠ w.heap.size + 2 := by omega
  exact ⟨gg, rfl, by omega, (hrow.setOther (a := ⟨w.heap.size + 2, 0, none⟩) hne _).setOther (a := ⟨w.heap.size + 2, 1, none⟩) hne _, hR3.two.b⟩
theorem unionB_err (N M : Int) (A B : Option Addr) (la ca lb cb : Nat) (f g : Nat → Nat) (w : World) (ha : Wds w A la f) (hb : Wds w B lb g) (h : ¬ (Vld N la f ∧ Vld M lb g ∧ N = M)) :
    Calls Tryd.prog 55 #[.agg #[.int .i64 N, .slice A la ca], .agg #[.int .i64 M, .slice B lb cb]] w (SetErr w 1) := by
  have HA := Lib.hid ha; clear ha
  have HB := Lib.hid hb; clear hb
  have HN := Lib.hid h; clear h
  have hR0 := twoR_new w N M A B la ca lb cb
  go_enter Tryd.func55, Tryd.ntmps55
  go_wp2_with fail
  refine (combine_err61 _ _ _ _ _ _ _ _ _ _ _ (HA.out.below hR0.two.b) (HB.out.below hR0.two.b) HN.out).mono ?_; rintro e w2 ⟨rfl, b2⟩
  have hR2 := hR0.next b2
  obtain ⟨r0, r1, f0, f1⟩ := hR2.r.cells
  have hR3 := TwoR.stored hR2 (.int .i64 0) (.slice none 0 0)
  go_wp2_with fail
  clear r0 r1
  obtain ⟨q0, q1⟩ := hR3.r.stored
  refine bodyPost_ret (v := .tuple #[.agg #[.int .i64 0, .slice none 0 0], .int .i64 1]) (by simp [results, Tryd.results55, go_sem, q0, q1]) rfl ?_
  exact ⟨rfl, hR3.two.b⟩
end Go.Proofs.YtngpfondnampjaaDoor
