/- Package poset: Minimal, Maximal. -/
import Derived.Test.YtakjdihhbndcnaaDoorPDwn
import Derived.Test.YtakjdihhbndcnaaDoorPLvM
namespace Go.Proofs.YtakjdihhbndcnaaDoor
open Go.RowKit Go.Sort
set_option maxRecDepth 100000 in
set_option maxHeartbeats 4000000 in
theorem elements61 (n c : Nat) (A : Option Addr) (pG : Nat) (T : Nat → Bool) (w : World) (hn : n ≤ 512) (hcl : ∀ i, i < n → ∀ u, Below w.heap.size w u → Calls Tryd.prog 61 #[.int .i64 i, .pointer (some ⟨pG, 0, none⟩)] u fun e w' => e = .returned (.bool (T i)) ∧ Below u.heap.size u w') :
    Calls Tryd.prog 60 #[.agg #[.slice A n c], .func (Fn.func 61) #[] #[.pointer (some ⟨pG, 0, none⟩)]] w (SetEnd w n (setF (tl T true n))) := by
  have HCL := Lib.hid hcl; clear hcl
  have r0 := (relAt_new w A n c).alloc (.cells #[.int .i64 0, .slice none 0 0] 37)
  have s0 := setAt_new (w.alloc (.cells #[.slice A n c] 24)) 0 none 0 0
  have hz : (w.alloc (.cells #[.slice A n c] 24)).heap.size = w.heap.size + 1 := by simp
  rw [hz] at s0
  have b0 : Below w.heap.size w ((w.alloc (.cells #[.slice A n c] 24)).alloc (.cells #[.int .i64 0, .slice none 0 0] 37)) := ((Below.refl _ _).alloc (Nat.le_refl _) _).alloc (by simp) _
  clear hz
  go_enter Tryd.func60, Tryd.ntmps60
  go_upto_region 1 with fail
  generalize (w.alloc (.cells #[.slice A n c] 24)).alloc (.cells #[.int .i64 0, .slice none 0 0] 37) = W at *
  have c0 := r0.c0
  go_wp2_with fail
  clear c0
  go_loopw [6, 14] (fun v i wr => ∃ K : Nat, K ≤ n ∧ i = .int .i64 K ∧ wr.ownsRow (w.heap.size + 2) 3 1 v (tl T true K).length (vals (tl T true K)) ∧ SetAt wr (w.heap.size + 1) 0 none 0 0 ∧ Below w.heap.size w wr) (fun _ i _ => n - (intOf i).toNat)
  case atStart => exact ⟨0, Nat.zero_le _, rfl, ⟨rfl, .inl ⟨rfl, rfl⟩⟩, s0, b0⟩
  case round =>
    clear s0 b0 r0
    obtain ⟨K, hK, rfl, hown, hS, hB⟩ := hrel
    by_cases hlt : K < n
    · have hwrap : IntKind.i64.wrap ((K : Int) + 1) = (K : Int) + 1 := IntWalk.i64_in _ (by omega)
      have hll := tl_len T true K
      have HC := Lib.hid (HCL.out K hlt wr hB)
      obtain ⟨vb, hvb⟩ : ∃ v, T K = v := ⟨_, rfl⟩
      rw [hvb] at HC
      go_wp2_with fail
      refine HC.out.mono ?_; rintro e w2 ⟨rfl, b2⟩
      have hown2 := own_below hown b2
      have hS2 := hS.below b2
      have hB2 := below_next hB b2
      have hsl := hS2.lt
      clear hown hS hB b2 HC
      cases vb with
      | true =>
        have hst : Hid (tl T true (K + 1) = tl T true K ++ [K]) := tl_yes hvb
        obtain ⟨l, hl⟩ : ∃ l, l = tl T true K := ⟨_, rfl⟩
        rw [← hl] at hown2 hst hll
        clear hl hvb
        have hownA := hown2.alloc (.cells #[.int .i64 (K : Int)] 3)
        have hSA := hS2.alloc (.cells #[.int .i64 (K : Int)] 3)
        go_wp2_with (at_builtin; refine append_nat rfl (.tmp 20) (.tmp 22) rfl (w.heap.size + 2) _ l K K _ rfl hownA w2.heap.size rfl (heap_alloc_new _ _) rfl (by omega) (by simp; omega) ?_; intro g9 c9 w9 hown9 hg9 hat9)
        go_roundw
        case rel => exact ⟨K + 1, hlt, by go_num, by rw [hst.out, List.length_append]; exact hown9, (hg9.block _ hSA.lt (fun e => by have := (hown2.lt _ e.symm).1; omega)).trans hSA, grown_below hB2 hown2 (by omega) hg9⟩
        case measure => simp [intOf]; omega
      | false =>
        have hst : Hid (tl T true (K + 1) = tl T true K) := tl_no (by rw [hvb]; exact Bool.false_ne_true)
        clear hvb
        go_wp2_with fail
        go_roundw
        case rel => exact ⟨K + 1, hlt, by go_num, by rw [hst.out]; exact hown2, hS2, hB2⟩
        case measure => simp [intOf]; omega
    · obtain rfl : K = n := by omega
      have hsl := hS.lt
      have hll := tl_len T true K
      have HO := Lib.hid (of_list K u6 (w.heap.size + 2) (tl T true K) wr hn hown (by omega) (fun x hx => (tl_mem.1 hx).1))
      generalize hmw : (K + 63) / 64 = mw at *
      have HMW := Lib.hid hmw
      clear hmw hown
      go_wp2_with fail
      refine HO.out.mono ?_; rintro e w3 ⟨gW, rfl, hgW, hrow, b3⟩
      have hS3 := hS.below b3
      have hB3 := below_next hB b3
      have bA : Below w3.heap.size w3 (w3.alloc (.cells #[.int .i64 K, .slice (some ⟨gW, 0, none⟩) mw mw] 37)) := (Below.refl _ _).alloc (Nat.le_refl _) _
      have hS4 := hS3.alloc (.cells #[.int .i64 K, .slice (some ⟨gW, 0, none⟩) mw mw] 37)
      have hB4 := below_next hB3 bA
      have hrow4 := row_below hrow bA
      have hX := setAt_new w3 K (some ⟨gW, 0, none⟩) mw mw
      have hwl := hrow.lt
      go_upto_region 10 with fail
      generalize w3.alloc (.cells #[.int .i64 K, .slice (some ⟨gW, 0, none⟩) mw mw] 37) = w4 at *
      have c0 := hX.c0
      have c1 := hX.c1
      have r0 := hS4.c0
      have r1 := hS4.c1
      have f0 := hS4.free 0
      have f1 := hS4.free 1
      have hgne : gW ≠ w.heap.size + 1 := by omega
      have s5 := setAt_put (N' := (K : Int)) (A' := some ⟨gW, 0, none⟩) (l' := mw) (c' := mw) hS4
      have k0 := s5.c0
      have k1 := s5.c1
      have hrow5 := (hrow4.setOther (a := ⟨w.heap.size + 1, 0, none⟩) (by exact hgne) (.int .i64 (K : Int))).setOther (a := ⟨w.heap.size + 1, 1, none⟩) (by exact hgne) (.slice (some ⟨gW, 0, none⟩) mw mw)
      have hB5 := (hB4.setCell (p := ⟨w.heap.size + 1, 0, none⟩) (by exact Nat.le_succ _) (.int .i64 (K : Int))).setCell (p := ⟨w.heap.size + 1, 1, none⟩) (by exact Nat.le_succ _) (.slice (some ⟨gW, 0, none⟩) mw mw)
      clear hS hS3 hB3 bA hB4 hrow4 hrow
      go_wp2_with fail
      refine bodyPost_ret (v := .agg #[.int .i64 K, .slice (some ⟨gW, 0, none⟩) mw mw]) (by simp [results, Tryd.results60, go_sem, k0, k1]) rfl ?_
      exact ⟨gW, by rw [HMW.out], by omega, by rw [HMW.out]; exact hrow5, hB5⟩
set_option maxRecDepth 100000 in
set_option maxHeartbeats 4000000 in
theorem elements62 (n c : Nat) (A : Option Addr) (pR : Nat) (T : Nat → Bool) (w : World) (hn : n ≤ 512) (hcl : ∀ i, i < n → ∀ u, Below w.heap.size w u → Calls Tryd.prog 62 #[.int .i64 i, .pointer (some ⟨pR, 0, none⟩)] u fun e w' => e = .returned (.bool (T i)) ∧ Below u.heap.size u w') :
    Calls Tryd.prog 60 #[.agg #[.slice A n c], .func (Fn.func 62) #[] #[.pointer (some ⟨pR, 0, none⟩)]] w (SetEnd w n (setF (tl T true n))) := by
  have HCL := Lib.hid hcl; clear hcl
  have r0 := (relAt_new w A n c).alloc (.cells #[.int .i64 0, .slice none 0 0] 37)
  have s0 := setAt_new (w.alloc (.cells #[.slice A n c] 24)) 0 none 0 0
  have hz : (w.alloc (.cells #[.slice A n c] 24)).heap.size = w.heap.size + 1 := by simp
  rw [hz] at s0
  have b0 : Below w.heap.size w ((w.alloc (.cells #[.slice A n c] 24)).alloc (.cells #[.int .i64 0, .slice none 0 0] 37)) := ((Below.refl _ _).alloc (Nat.le_refl _) _).alloc (by simp) _
  clear hz
  go_enter Tryd.func60, Tryd.ntmps60
  go_upto_region 1 with fail
  generalize (w.alloc (.cells #[.slice A n c] 24)).alloc (.cells #[.int .i64 0, .slice none 0 0] 37) = W at *
  have c0 := r0.c0
  go_wp2_with fail
  clear c0
  go_loopw [6, 14] (fun v i wr => ∃ K : Nat, K ≤ n ∧ i = .int .i64 K ∧ wr.ownsRow (w.heap.size + 2) 3 1 v (tl T true K).length (vals (tl T true K)) ∧ SetAt wr (w.heap.size + 1) 0 none 0 0 ∧ Below w.heap.size w wr) (fun _ i _ => n - (intOf i).toNat)
  case atStart => exact ⟨0, Nat.zero_le _, rfl, ⟨rfl, .inl ⟨rfl, rfl⟩⟩, s0, b0⟩
  case round =>
    clear s0 b0 r0
    obtain ⟨K, hK, rfl, hown, hS, hB⟩ := hrel
    by_cases hlt : K < n
    · have hwrap : IntKind.i64.wrap ((K : Int) + 1) = (K : Int) + 1 := IntWalk.i64_in _ (by omega)
      have hll := tl_len T true K
      have HC := Lib.hid (HCL.out K hlt wr hB)
      obtain ⟨vb, hvb⟩ : ∃ v, T K = v := ⟨_, rfl⟩
      rw [hvb] at HC
      go_wp2_with fail
      refine HC.out.mono ?_; rintro e w2 ⟨rfl, b2⟩
      have hown2 := own_below hown b2
      have hS2 := hS.below b2
      have hB2 := below_next hB b2
      have hsl := hS2.lt
      clear hown hS hB b2 HC
      cases vb with
      | true =>
        have hst : Hid (tl T true (K + 1) = tl T true K ++ [K]) := tl_yes hvb
        obtain ⟨l, hl⟩ : ∃ l, l = tl T true K := ⟨_, rfl⟩
        rw [← hl] at hown2 hst hll
        clear hl hvb
        have hownA := hown2.alloc (.cells #[.int .i64 (K : Int)] 3)
        have hSA := hS2.alloc (.cells #[.int .i64 (K : Int)] 3)
        go_wp2_with (at_builtin; refine append_nat rfl (.tmp 20) (.tmp 22) rfl (w.heap.size + 2) _ l K K _ rfl hownA w2.heap.size rfl (heap_alloc_new _ _) rfl (by omega) (by simp; omega) ?_; intro g9 c9 w9 hown9 hg9 hat9)
        go_roundw
        case rel => exact ⟨K + 1, hlt, by go_num, by rw [hst.out, List.length_append]; exact hown9, (hg9.block _ hSA.lt (fun e => by have := (hown2.lt _ e.symm).1; omega)).trans hSA, grown_below hB2 hown2 (by omega) hg9⟩
        case measure => simp [intOf]; omega
      | false =>
        have hst : Hid (tl T true (K + 1) = tl T true K) := tl_no (by rw [hvb]; exact Bool.false_ne_true)
        clear hvb
        go_wp2_with fail
        go_roundw
        case rel => exact ⟨K + 1, hlt, by go_num, by rw [hst.out]; exact hown2, hS2, hB2⟩
        case measure => simp [intOf]; omega
    · obtain rfl : K = n := by omega
      have hsl := hS.lt
      have hll := tl_len T true K
      have HO := Lib.hid (of_list K u6 (w.heap.size + 2) (tl T true K) wr hn hown (by omega) (fun x hx => (tl_mem.1 hx).1))
      generalize hmw : (K + 63) / 64 = mw at *
      have HMW := Lib.hid hmw
      clear hmw hown
      go_wp2_with fail
      refine HO.out.mono ?_; rintro e w3 ⟨gW, rfl, hgW, hrow, b3⟩
      have hS3 := hS.below b3
      have hB3 := below_next hB b3
      have bA : Below w3.heap.size w3 (w3.alloc (.cells #[.int .i64 K, .slice (some ⟨gW, 0, none⟩) mw mw] 37)) := (Below.refl _ _).alloc (Nat.le_refl _) _
      have hS4 := hS3.alloc (.cells #[.int .i64 K, .slice (some ⟨gW, 0, none⟩) mw mw] 37)
      have hB4 := below_next hB3 bA
      have hrow4 := row_below hrow bA
      have hX := setAt_new w3 K (some ⟨gW, 0, none⟩) mw mw
      have hwl := hrow.lt
      go_upto_region 10 with fail
      generalize w3.alloc (.cells #[.int .i64 K, .slice (some ⟨gW, 0, none⟩) mw mw] 37) = w4 at *
      have c0 := hX.c0
      have c1 := hX.c1
      have r0 := hS4.c0
      have r1 := hS4.c1
      have f0 := hS4.free 0
      have f1 := hS4.free 1
      have hgne : gW ≠ w.heap.size + 1 := by omega
      have s5 := setAt_put (N' := (K : Int)) (A' := some ⟨gW, 0, none⟩) (l' := mw) (c' := mw) hS4
      have k0 := s5.c0
      have k1 := s5.c1
      have hrow5 := (hrow4.setOther (a := ⟨w.heap.size + 1, 0, none⟩) (by exact hgne) (.int .i64 (K : Int))).setOther (a := ⟨w.heap.size + 1, 1, none⟩) (by exact hgne) (.slice (some ⟨gW, 0, none⟩) mw mw)
      have hB5 := (hB4.setCell (p := ⟨w.heap.size + 1, 0, none⟩) (by exact Nat.le_succ _) (.int .i64 (K : Int))).setCell (p := ⟨w.heap.size + 1, 1, none⟩) (by exact Nat.le_succ _) (.slice (some ⟨gW, 0, none⟩) mw mw)
      clear hS hS3 hB3 bA hB4 hrow4 hrow
      go_wp2_with fail
      refine bodyPost_ret (v := .agg #[.int .i64 K, .slice (some ⟨gW, 0, none⟩) mw mw]) (by simp [results, Tryd.results60, go_sem, k0, k1]) rfl ?_
      exact ⟨gW, by rw [HMW.out], by omega, by rw [HMW.out]; exact hrow5, hB5⟩
theorem min1_any (q g n i : Nat) (F : Nat → Bool) (w : World) (hx : w.heap[q]? = some (.cells #[.slice (some ⟨g, 0, none⟩) n n] 63 (0, 0))) (hr : w.rowIs g 4 n (fun k => .bool (F k))) (hi : i < n) :
    Calls Tryd.prog 61 #[.int .i64 i, .pointer (some ⟨q, 0, none⟩)] w fun e w' => e = .returned (.bool (!F i)) ∧ Below w.heap.size w w' := by
  have c0 : w.cell? ⟨q, 0, none⟩ = some (.slice (some ⟨g, 0, none⟩) n n) := cell_of_row _ _ 0 _ _ _ hx
  have c1 : w.cell? ⟨g, i, none⟩ = some (.bool (F i)) := hr.cell hi
  generalize F i = v at *
  clear hx hr
  go_enter Tryd.func61, Tryd.ntmps61
  go_wp2_with fail
  go_ret
  exact ⟨rfl, Below.refl _ _⟩
theorem cnt_zero {n l : Nat} {f : Nat → Nat} (hf : Vld (n : Int) l f) : ((((cnt f l : Nat) : Int)) == 0) = !(List.range n).any (bt f) := by
  have hl := hf.2.2.1
  rw [Int.toNat_natCast] at hl
  have hm := mem_all hf
  rw [Int.toNat_natCast] at hm
  rw [cnt_mem, hm, Bool.eq_iff_iff, beq_iff_eq, Bool.not_eq_true', List.any_eq_false]
  constructor
  · intro h k hk hb
    have hkm : k ∈ mem f n := mem_in.2 ⟨List.mem_range.1 hk, hb⟩
    have := List.length_pos_of_mem hkm
    omega
  · intro h
    cases hc : mem f n with
    | nil => rfl
    | cons a t =>
      have ha : a ∈ mem f n := by rw [hc]; exact List.mem_cons_self
      exact absurd (mem_in.1 ha).2 (h a (List.mem_range.2 (mem_in.1 ha).1))
def maxT (n : Nat) (T : Nat → Nat → Bool) (i : Nat) : Bool := !(List.range n).any (T i)
def minT (n : Nat) (T : Nat → Nat → Bool) (i : Nat) : Bool := !(List.range n).any fun k => T k i
set_option maxHeartbeats 2000000 in
theorem max1_any (pR n c i : Nat) (A : Option Addr) (R : Nat → RowD) (w : World) (h : Rel w A n R) (hv : VRel n R) (hr : RelAt w pR A n c) (hi : i < n) :
    Calls Tryd.prog 62 #[.int .i64 i, .pointer (some ⟨pR, 0, none⟩)] w fun e w' => e = .returned (.bool (maxT n (mat R) i)) ∧ Below w.heap.size w w' := by
  obtain ⟨b, off, rfl, hbl, hcz⟩ := h (by omega)
  obtain ⟨x0, x1, xw⟩ := hcz i hi
  have hvk := hv.2 i hi
  rw [hvk.1] at x0
  have hcp := cnt_zero hvk.2
  have hdw : Hid (maxT n (mat R) i = !(List.range n).any (bt (R i).f)) := Lib.hid rfl
  rw [← hcp] at hdw
  have hn := hv.1
  have c0 := hr.c0
  have HC := Lib.hid (count_yes n (R i).A (R i).l (R i).c (R i).f w xw hvk.2)
  generalize cnt (R i).f (R i).l = q at *
  generalize (R i).A = A1 at *
  generalize (R i).c = c1 at *
  generalize (R i).l = l1 at *
  clear hcz hr hvk xw hv hcp
  go_enter Tryd.func62, Tryd.ntmps62
  go_wp2_with fail
  refine HC.out.mono ?_; rintro e w6 ⟨rfl, b6⟩
  go_wp2_with fail
  go_ret
  exact ⟨by rw [hdw.out]; rfl, b6⟩
/- which elements have been found to be greater than one -/
def gr (T : Nat → Nat → Bool) (K j : Nat) : Bool := (List.range K).any fun k => T k j
def grm (F : Nat → Bool) (m : List Nat) (q : Nat) : Nat → Bool := fun j => F j || (m.take q).contains j
theorem grm_zero (F : Nat → Bool) (m : List Nat) : grm F m 0 = F := by funext j; unfold grm; simp
theorem grm_succ {F : Nat → Bool} {m : List Nat} {q : Nat} (h : q < m.length) (j : Nat) : (grm F m q j || decide (j = m[q])) = grm F m (q + 1) j := by
  unfold grm
  have e : (m.take (q + 1)).contains j = ((m.take q).contains j || decide (j = m[q])) := by
    rw [List.take_succ_eq_append_getElem h, Bool.eq_iff_iff, List.contains_iff_mem, List.mem_append, List.mem_singleton, Bool.or_eq_true, List.contains_iff_mem, decide_eq_true_eq]
  rw [e, Bool.or_assoc]
theorem grm_end {T : Nat → Nat → Bool} {n K : Nat} {m : List Nat} (hm : ∀ j, j ∈ m ↔ j < n ∧ T K j = true) {j : Nat} (hj : j < n) : grm (gr T K) m m.length j = gr T (K + 1) j := by
  unfold grm gr
  rw [List.take_length, List.range_succ, List.any_append, Bool.eq_iff_iff]
  simp only [Bool.or_eq_true, List.contains_iff_mem, hm, List.any_cons, List.any_nil, Bool.or_false, hj, true_and]
structure MiAt (w wr : World) (g q n c : Nat) (A : Option Addr) (F : Nat → Bool) : Prop where
  b : wr.rowIs g 4 n (fun k => .bool (F k))
  x : wr.heap[q]? = some (.cells #[.slice (some ⟨g, 0, none⟩) n n] 63 (0, 0))
  r : RelAt wr w.heap.size A n c
  z : SetAt wr (w.heap.size + 1) 0 none 0 0
  f : Below w.heap.size w wr
variable {w wr w2 : World} {g q n c : Nat} {A : Option Addr} {F : Nat → Bool}
theorem MiAt.next (h : MiAt w wr g q n c A F) (b : Below wr.heap.size wr w2) : MiAt w w2 g q n c A F :=
  ⟨row_below h.b b, (b.block q (lt_of_block h.x)).trans h.x, h.r.below b, h.z.below b, below_next h.f b⟩
theorem MiAt.congr {F' : Nat → Bool} (h : MiAt w wr g q n c A F) (e : ∀ j, j < n → F j = F' j) : MiAt w wr g q n c A F' := ⟨h.b.congr fun j hj => by rw [e j hj], h.x, h.r, h.z, h.f⟩
theorem MiAt.put (h : MiAt w wr g q n c A F) (hg : w.heap.size + 2 ≤ g) (hq : g ≠ q) (j : Nat) : MiAt w (wr.setCell ⟨g, j, none⟩ (.bool true)) g q n c A (fun k => F k || decide (k = j)) := by
  refine ⟨(h.b.set j _).congr fun k _ => ?_, (Below.heap_setCell wr ⟨g, j, none⟩ _ q (Ne.symm hq)).trans h.x, h.r.far (q := ⟨g, j, none⟩) (by show w.heap.size ≠ g; omega) _, h.z.far (q := ⟨g, j, none⟩) (by show w.heap.size + 1 ≠ g; omega) _, h.f.setCell (p := ⟨g, j, none⟩) (by show w.heap.size ≤ g; omega) _⟩
  by_cases e : k = j
  · rw [if_pos e, decide_eq_true e]; simp
  · rw [if_neg e, decide_eq_false e]; simp
def EndsEnd (w : World) (n : Nat) (R : Nat → RowD) (f : Nat → Nat) (e : Ending) (w' : World) : Prop :=
  (POrd n R ∧ DownOk w n f e w') ∨ (¬ POrd n R ∧ e = .returned (.tuple #[.agg #[.int .i64 0, .slice none 0 0], .int .i64 1]) ∧ Below w.heap.size w w')
theorem minl_off (A : Option Addr) (n c : Nat) (R : Nat → RowD) (w : World) (h : Rel w A n R) (hn : n ≤ 1000000) (hT : Tab w) (hv : ¬ POrd n R) (f : Nat → Nat) :
    Calls Tryd.prog 24 #[.agg #[.slice A n c]] w (EndsEnd w n R f) := by
  have HH := Lib.hid h; clear h
  have r0 := (relAt_new w A n c).alloc (.cells #[.int .i64 0, .slice none 0 0] 37)
  have z0 := setAt_new (w.alloc (.cells #[.slice A n c] 24)) 0 none 0 0
  have hz : (w.alloc (.cells #[.slice A n c] 24)).heap.size = w.heap.size + 1 := by simp
  rw [hz] at z0
  have b0 : Below w.heap.size w ((w.alloc (.cells #[.slice A n c] 24)).alloc (.cells #[.int .i64 0, .slice none 0 0] 37)) := ((Below.refl _ _).alloc (Nat.le_refl _) _).alloc (by simp) _
  have HV := Lib.hid hv
  clear hz hv
  go_enter Tryd.func24, Tryd.ntmps24
  go_upto_region 1 with fail
  generalize (w.alloc (.cells #[.slice A n c] 24)).alloc (.cells #[.int .i64 0, .slice none 0 0] 37) = W at *
  have c0 := r0.c0
  go_wp2_with fail
  refine (pvalid_any A n c R false W (HH.out.below b0) hn (hT.below b0) ⟨fun h => (by cases h), fun h => absurd h HV.out⟩).mono ?_; rintro e w2 ⟨rfl, b2⟩
  have z2 := z0.below b2
  have B2 := below_next b0 b2
  have s5 := setAt_put (N' := 0) (A' := none) (l' := 0) (c' := 0) z2
  have k0 := z2.c0
  have k1 := z2.c1
  have f0 := z2.free 0
  have f1 := z2.free 1
  have j0 := s5.c0
  have j1 := s5.c1
  have B5 := Lib.hid ((B2.setCell (p := ⟨w.heap.size + 1, 0, none⟩) (by show w.heap.size ≤ w.heap.size + 1; omega) (.int .i64 0)).setCell (p := ⟨w.heap.size + 1, 1, none⟩) (by show w.heap.size ≤ w.heap.size + 1; omega) (.slice none 0 0))
  clear r0 z0 b0 b2 z2 s5 B2 c0
  go_wp2_with fail
  refine bodyPost_ret (v := .tuple #[.agg #[.int .i64 0, .slice none 0 0], .int .i64 1]) (by simp [results, Tryd.results24, go_sem, j0, j1]) rfl ?_
  exact .inr ⟨HV.out, rfl, B5.out⟩
theorem maxl_off (A : Option Addr) (n c : Nat) (R : Nat → RowD) (w : World) (h : Rel w A n R) (hn : n ≤ 1000000) (hT : Tab w) (hv : ¬ POrd n R) (f : Nat → Nat) :
    Calls Tryd.prog 25 #[.agg #[.slice A n c]] w (EndsEnd w n R f) := by
  have HH := Lib.hid h; clear h
  have r0 := (relAt_new w A n c).alloc (.cells #[.int .i64 0, .slice none 0 0] 37)
  have z0 := setAt_new (w.alloc (.cells #[.slice A n c] 24)) 0 none 0 0
  have hz : (w.alloc (.cells #[.slice A n c] 24)).heap.size = w.heap.size + 1 := by simp
  rw [hz] at z0
  have b0 : Below w.heap.size w ((w.alloc (.cells #[.slice A n c] 24)).alloc (.cells #[.int .i64 0, .slice none 0 0] 37)) := ((Below.refl _ _).alloc (Nat.le_refl _) _).alloc (by simp) _
  have HV := Lib.hid hv
  clear hz hv
  go_enter Tryd.func25, Tryd.ntmps25
  go_upto_region 1 with fail
  generalize (w.alloc (.cells #[.slice A n c] 24)).alloc (.cells #[.int .i64 0, .slice none 0 0] 37) = W at *
  have c0 := r0.c0
  go_wp2_with fail
  refine (pvalid_any A n c R false W (HH.out.below b0) hn (hT.below b0) ⟨fun h => (by cases h), fun h => absurd h HV.out⟩).mono ?_; rintro e w2 ⟨rfl, b2⟩
  have z2 := z0.below b2
  have B2 := below_next b0 b2
  have s5 := setAt_put (N' := 0) (A' := none) (l' := 0) (c' := 0) z2
  have k0 := z2.c0
  have k1 := z2.c1
  have f0 := z2.free 0
  have f1 := z2.free 1
  have j0 := s5.c0
  have j1 := s5.c1
  have B5 := Lib.hid ((B2.setCell (p := ⟨w.heap.size + 1, 0, none⟩) (by show w.heap.size ≤ w.heap.size + 1; omega) (.int .i64 0)).setCell (p := ⟨w.heap.size + 1, 1, none⟩) (by show w.heap.size ≤ w.heap.size + 1; omega) (.slice none 0 0))
  clear r0 z0 b0 b2 z2 s5 B2 c0
  go_wp2_with fail
  refine bodyPost_ret (v := .tuple #[.agg #[.int .i64 0, .slice none 0 0], .int .i64 1]) (by simp [results, Tryd.results25, go_sem, j0, j1]) rfl ?_
  exact .inr ⟨HV.out, rfl, B5.out⟩
set_option maxRecDepth 100000 in
set_option maxHeartbeats 4000000 in
theorem maxl_on (A : Option Addr) (n c : Nat) (R : Nat → RowD) (w : World) (h : Rel w A n R) (hT : Tab w) (hP : POrd n R) :
    Calls Tryd.prog 25 #[.agg #[.slice A n c]] w (EndsEnd w n R (setF (tl (maxT n (mat R)) true n))) := by
  have hn := hP.1.1
  have HH := Lib.hid h; clear h
  have r0 := (relAt_new w A n c).alloc (.cells #[.int .i64 0, .slice none 0 0] 37)
  have z0 := setAt_new (w.alloc (.cells #[.slice A n c] 24)) 0 none 0 0
  have hz : (w.alloc (.cells #[.slice A n c] 24)).heap.size = w.heap.size + 1 := by simp
  rw [hz] at z0
  have b0 : Below w.heap.size w ((w.alloc (.cells #[.slice A n c] 24)).alloc (.cells #[.int .i64 0, .slice none 0 0] 37)) := ((Below.refl _ _).alloc (Nat.le_refl _) _).alloc (by simp) _
  have HP := Lib.hid hP
  clear hz hP
  go_enter Tryd.func25, Tryd.ntmps25
  go_upto_region 1 with fail
  generalize (w.alloc (.cells #[.slice A n c] 24)).alloc (.cells #[.int .i64 0, .slice none 0 0] 37) = W at *
  have c0 := r0.c0
  go_wp2_with fail
  refine (pvalid_any A n c R true W (HH.out.below b0) (by omega) (hT.below b0) ⟨fun _ => HP.out, fun _ => rfl⟩).mono ?_; rintro e w2 ⟨rfl, b2⟩
  have r2 := r0.below b2
  have z2 := z0.below b2
  have B2 := below_next b0 b2
  clear r0 z0 c0 b0 b2
  have c0 := r2.c0
  have HE := Lib.hid (elements62 n c A w.heap.size (maxT n (mat R)) w2 hn (fun i hi u hu => max1_any w.heap.size n c i A R u (HH.out.below (below_next B2 hu)) HP.out.1 (r2.below hu) hi))
  unfold SetEnd at HE
  obtain ⟨mw, hmw⟩ : ∃ mw, (n + 63) / 64 = mw := ⟨_, rfl⟩
  rw [hmw] at HE
  have HMW := Lib.hid hmw
  clear hmw
  go_wp2_with fail
  refine HE.out.mono ?_; rintro e w4 ⟨g, rfl, hg, hrow, b4⟩
  have s4 := z2.below b4
  have B4 := below_next B2 b4
  have hsl := z2.lt
  have k0 := s4.c0
  have k1 := s4.c1
  have f0 := s4.free 0
  have f1 := s4.free 1
  have hgne : g ≠ w.heap.size + 1 := by omega
  have s5 := setAt_put (N' := (n : Int)) (A' := some ⟨g, 0, none⟩) (l' := mw) (c' := mw) s4
  have j0 := s5.c0
  have j1 := s5.c1
  have HROW := Lib.hid ((hrow.setOther (a := ⟨w.heap.size + 1, 0, none⟩) (by exact hgne) (.int .i64 (n : Int))).setOther (a := ⟨w.heap.size + 1, 1, none⟩) (by exact hgne) (.slice (some ⟨g, 0, none⟩) mw mw))
  have B5 := Lib.hid ((B4.setCell (p := ⟨w.heap.size + 1, 0, none⟩) (by show w.heap.size ≤ w.heap.size + 1; omega) (.int .i64 (n : Int))).setCell (p := ⟨w.heap.size + 1, 1, none⟩) (by show w.heap.size ≤ w.heap.size + 1; omega) (.slice (some ⟨g, 0, none⟩) mw mw))
  have hgw : w.heap.size ≤ g := by omega
  clear r2 z2 s4 s5 c0 b4 hrow HE B2 B4
  go_wp2_with fail
  refine bodyPost_ret (v := .tuple #[.agg #[.int .i64 n, .slice (some ⟨g, 0, none⟩) mw mw], .int .i64 0]) (by simp [results, Tryd.results25, go_sem, j0, j1]) rfl ?_
  exact .inl ⟨HP.out, g, by rw [HMW.out], hgw, by rw [HMW.out]; exact HROW.out, B5.out⟩
set_option maxRecDepth 100000 in
set_option maxHeartbeats 8000000 in
theorem minl_on (A : Option Addr) (n c : Nat) (R : Nat → RowD) (w : World) (h : Rel w A n R) (hT : Tab w) (hP : POrd n R) :
    Calls Tryd.prog 24 #[.agg #[.slice A n c]] w (EndsEnd w n R (setF (tl (minT n (mat R)) true n))) := by
  have hn := hP.1.1
  have HH := Lib.hid h; clear h
  have r0 := (relAt_new w A n c).alloc (.cells #[.int .i64 0, .slice none 0 0] 37)
  have z0 := setAt_new (w.alloc (.cells #[.slice A n c] 24)) 0 none 0 0
  have hz : (w.alloc (.cells #[.slice A n c] 24)).heap.size = w.heap.size + 1 := by simp
  rw [hz] at z0
  have b0 : Below w.heap.size w ((w.alloc (.cells #[.slice A n c] 24)).alloc (.cells #[.int .i64 0, .slice none 0 0] 37)) := ((Below.refl _ _).alloc (Nat.le_refl _) _).alloc (by simp) _
  have HP := Lib.hid hP
  clear hz hP
  go_enter Tryd.func24, Tryd.ntmps24
  go_upto_region 1 with fail
  generalize (w.alloc (.cells #[.slice A n c] 24)).alloc (.cells #[.int .i64 0, .slice none 0 0] 37) = W at *
  have c0 := r0.c0
  go_wp2_with fail
  refine (pvalid_any A n c R true W (HH.out.below b0) (by omega) (hT.below b0) ⟨fun _ => HP.out, fun _ => rfl⟩).mono ?_; rintro e w2 ⟨rfl, b2⟩
  have r2 := r0.below b2
  have z2 := z0.below b2
  have B2 := below_next b0 b2
  clear r0 z0 c0 b0 b2
  have c0 := r2.c0
  have mk := make_bools n (by omega)
  have e3 : (w2.alloc (.cells (madeCells #[.bool false] n) 4)).heap[w2.heap.size]? = some (.cells (madeCells #[.bool false] n) 4) := heap_alloc_new w2 _
  have b3 : Below w2.heap.size w2 (w2.alloc (.cells (madeCells #[.bool false] n) 4)) := (Below.refl _ _).alloc (Nat.le_refl _) _
  have hx3 : ((w2.alloc (.cells (madeCells #[.bool false] n) 4)).alloc (.cells #[.slice (some ⟨w2.heap.size, 0, none⟩) n n] 63)).heap[w2.heap.size + 1]? = some (.cells #[.slice (some ⟨w2.heap.size, 0, none⟩) n n] 63 (0, 0)) := by
    have := heap_alloc_new (w2.alloc (.cells (madeCells #[.bool false] n) 4)) (.cells #[.slice (some ⟨w2.heap.size, 0, none⟩) n n] 63)
    simpa using this
  have bx : Below (w2.alloc (.cells (madeCells #[.bool false] n) 4)).heap.size (w2.alloc (.cells (madeCells #[.bool false] n) 4)) ((w2.alloc (.cells (madeCells #[.bool false] n) 4)).alloc (.cells #[.slice (some ⟨w2.heap.size, 0, none⟩) n n] 63)) := (Below.refl _ _).alloc (Nat.le_refl _) _
  have hM0 : MiAt w ((w2.alloc (.cells (madeCells #[.bool false] n) 4)).alloc (.cells #[.slice (some ⟨w2.heap.size, 0, none⟩) n n] 63)) w2.heap.size (w2.heap.size + 1) n c A (gr (mat R) 0) :=
    ⟨row_below (row_of_made e3) bx, hx3, (r2.below b3).below bx, (z2.below b3).below bx, below_next (below_next B2 b3) bx⟩
  have hgl : w.heap.size + 2 ≤ w2.heap.size := z2.lt
  clear e3 b3 hx3 bx z2
  go_upto_region 4 with fail
  clear mk c0 r2 B2
  generalize (w2.alloc (.cells (madeCells #[.bool false] n) 4)).alloc (.cells #[.slice (some ⟨w2.heap.size, 0, none⟩) n n] 63) = W3 at *
  generalize w2.heap.size = g at *
  have c0 := hM0.r.c0
  go_wp2_with fail
  clear c0
  go_loopw [20] (fun i wr => ∃ K : Nat, K ≤ n ∧ i = .int .i64 K ∧ MiAt w wr g (g + 1) n c A (gr (mat R) K)) (fun i _ => n - (intOf i).toNat)
  case atStart => exact ⟨0, Nat.zero_le _, rfl, hM0⟩
  case round =>
    clear hM0
    obtain ⟨K, hK, rfl, hM⟩ := hrel
    by_cases hlt : K < n
    · obtain ⟨b, off, rfl, hbl, hcz⟩ := (HH.out.below hM.f) (by omega)
      obtain ⟨x0, x1, xw⟩ := hcz K hlt
      have hvk := HP.out.1.2 K hlt
      have hwrap : IntKind.i64.wrap ((K : Int) + 1) = (K : Int) + 1 := IntWalk.i64_in _ (by omega)
      have HX := Lib.hid xw
      have HVK := Lib.hid hvk
      have hB := hM.f
      have bO : Below wr.heap.size wr (wr.alloc (.cells #[.int .i64 (R K).N, .slice (R K).A (R K).l (R K).c] 37)) := (Below.refl _ _).alloc (Nat.le_refl _) _
      have hS := setAt_new wr (R K).N (R K).A (R K).l (R K).c
      have hM1 := hM.next bO
      have HM := Lib.hid (pmembers_any n (R K) (wr.alloc (.cells #[.int .i64 (R K).N, .slice (R K).A (R K).l (R K).c] 37)) (HX.out.below bO) HVK.out (hT.below hM1.f))
      unfold RowOut at HM
      have hrow : Hid (∀ j, j ∈ (List.range n).filter (bt (R K).f) ↔ j < n ∧ mat R K j = true) := Lib.hid fun j => by rw [List.mem_filter, List.mem_range]; exact Iff.rfl
      have hll : ((List.range n).filter (bt (R K).f)).length ≤ n := by
        have := List.length_filter_le (bt (R K).f) (List.range n)
        simpa using this
      generalize (List.range n).filter (bt (R K).f) = m at *
      generalize (R K).N = N1 at *
      generalize (R K).A = A1 at *
      generalize (R K).l = l1 at *
      generalize (R K).c = c1 at *
      clear hcz xw hvk hM hB bO
      go_upto_region 7 with fail
      clear x0 x1
      generalize wr.alloc (.cells #[.int .i64 N1, .slice A1 l1 c1] 37) = w4 at *
      have c0 := hS.c0
      have c1' := hS.c1
      go_wp2_with fail
      refine HM.out.mono ?_; rintro e w5 ⟨vm, rfl, hown, b5⟩
      obtain ⟨Am, cm, rfl, hIm, _⟩ := own_ints hown
      have hM5 := hM1.next b5
      have hg4 : g < w4.heap.size := hM1.b.lt
      have HIm : Hid (∀ wr : World, (∀ b, b < w5.heap.size → b ≠ g → wr.heap[b]? = w5.heap[b]?) → Ints wr Am m.length (gets m)) := Lib.hid fun wr hk => fun hpos => by
        obtain ⟨b, off, hA, hlt, hc⟩ := hIm hpos
        subst hA
        have hbb := hown.lt b rfl
        have hne : b ≠ g := by omega
        have hsz : b < wr.heap.size := by
          have e := hk b hlt hne
          have h1 : b < w5.heap.size := hlt
          have h2 : w5.heap[b]? = some w5.heap[b] := by simp [h1]
          rw [h2] at e
          exact lt_of_block e
        exact ⟨b, off, rfl, hsz, fun k hk2 => (World.cell?_of_block (w := w5) (hk b hlt hne)).trans (hc k hk2)⟩
      have hM6 : MiAt w w5 g (g + 1) n c (some ⟨b, off, none⟩) (grm (gr (mat R) K) m 0) := by rw [grm_zero]; exact hM5
      clear HM hM1 hM5 hS hIm hown b5 c0 c1' HX
      go_wp2_with fail
      go_loopw [27] (fun x wr => ∃ q : Nat, q ≤ m.length ∧ x = .int .i64 q ∧ MiAt w wr g (g + 1) n c (some ⟨b, off, none⟩) (grm (gr (mat R) K) m q) ∧ Hid (∀ b, b < w5.heap.size → b ≠ g → wr.heap[b]? = w5.heap[b]?)) (fun x _ => m.length - (intOf x).toNat)
      case atStart => exact ⟨0, Nat.zero_le _, rfl, hM6, Lib.hid (fun _ _ _ => rfl)⟩
      case round =>
        clear hM6
        obtain ⟨q, hq, rfl, hM, hkw⟩ := hrel
        by_cases hlt2 : q < m.length
        · obtain ⟨bm, om, rfl, hbm, hcm⟩ := (HIm.out wr hkw.out) (by omega)
          have z0 := hcm q hlt2
          have hmem : m[q] ∈ m := List.getElem_mem hlt2
          have hjn := ((hrow.out _).1 hmem).1
          unfold gets at z0
          rw [getD_lt hlt2] at z0
          have hst : Hid (∀ j, (grm (gr (mat R) K) m q j || decide (j = m[q])) = grm (gr (mat R) K) m (q + 1) j) := Lib.hid fun j => grm_succ hlt2 j
          generalize m[q] = j at *
          have hwrap2 : IntKind.i64.wrap ((q : Int) + 1) = (q : Int) + 1 := IntWalk.i64_in _ (by omega)
          have x0 : wr.cell? ⟨g + 1, 0, none⟩ = some (.slice (some ⟨g, 0, none⟩) n n) := cell_of_row _ _ 0 _ _ _ hM.x
          have y0 : wr.cell? ⟨g, j, none⟩ = some (.bool (grm (gr (mat R) K) m q j)) := hM.b.cell hjn
          have f0 := hM.b.frozen j
          have hM2 := (hM.put hgl (by omega) j).congr fun k _ => hst.out k
          have hk2 : Hid (∀ b, b < w5.heap.size → b ≠ g → (wr.setCell ⟨g, j, none⟩ (.bool true)).heap[b]? = w5.heap[b]?) := Lib.hid fun b hb hne => (Below.heap_setCell _ _ _ _ (by exact hne)).trans (hkw.out b hb hne)
          have HM2 := Lib.hid hM2
          generalize grm (gr (mat R) K) m q j = y at *
          clear hM hkw hcm hM2 hst
          go_wp2_with fail
          go_roundw
          case rel => exact ⟨q + 1, hlt2, by go_num, HM2.out, hk2⟩
          case measure => simp [intOf]; omega
        · obtain rfl : q = m.length := by omega
          have hM2 := hM.congr fun j hj => grm_end hrow.out hj
          clear hM hkw
          go_wp2_with fail
          go_roundw
          case rel => exact ⟨K + 1, hlt, by go_num, hM2⟩
          case measure => simp [intOf]; omega
    · obtain rfl : K = n := by omega
      have c0 := hM.r.c0
      have hz2 := hM.z
      have B2 := hM.f
      have HE := Lib.hid (elements61 K c A (g + 1) (minT K (mat R)) wr hn (fun i hi u hu => min1_any (g + 1) g K i (gr (mat R) K) u (hM.next hu).x (hM.next hu).b hi))
      unfold SetEnd at HE
      obtain ⟨mw, hmw⟩ : ∃ mw, (K + 63) / 64 = mw := ⟨_, rfl⟩
      rw [hmw] at HE
      have HMW := Lib.hid hmw
      clear hmw hM
      go_wp2_with fail
      refine HE.out.mono ?_; rintro e w4 ⟨g2, rfl, hg, hrow, b4⟩
      have s4 := hz2.below b4
      have B4 := below_next B2 b4
      have hsl := hz2.lt
      have k0 := s4.c0
      have k1 := s4.c1
      have f0 := s4.free 0
      have f1 := s4.free 1
      have hgne : g2 ≠ w.heap.size + 1 := by omega
      have s5 := setAt_put (N' := (K : Int)) (A' := some ⟨g2, 0, none⟩) (l' := mw) (c' := mw) s4
      have j0 := s5.c0
      have j1 := s5.c1
      have HROW := Lib.hid ((hrow.setOther (a := ⟨w.heap.size + 1, 0, none⟩) (by exact hgne) (.int .i64 (K : Int))).setOther (a := ⟨w.heap.size + 1, 1, none⟩) (by exact hgne) (.slice (some ⟨g2, 0, none⟩) mw mw))
      have B5 := Lib.hid ((B4.setCell (p := ⟨w.heap.size + 1, 0, none⟩) (by show w.heap.size ≤ w.heap.size + 1; omega) (.int .i64 (K : Int))).setCell (p := ⟨w.heap.size + 1, 1, none⟩) (by show w.heap.size ≤ w.heap.size + 1; omega) (.slice (some ⟨g2, 0, none⟩) mw mw))
      have hgw : w.heap.size ≤ g2 := by omega
      clear hz2 s4 s5 c0 b4 hrow HE B2 B4
      go_wp2_with fail
      refine bodyPost_ret (v := .tuple #[.agg #[.int .i64 K, .slice (some ⟨g2, 0, none⟩) mw mw], .int .i64 0]) (by simp [results, Tryd.results24, go_sem, j0, j1]) rfl ?_
      exact .inl ⟨HP.out, g2, by rw [HMW.out], hgw, by rw [HMW.out]; exact HROW.out, B5.out⟩
end Go.Proofs.YtakjdihhbndcnaaDoor
