/- Package poset: Levels. -/
import Derived.Test.YtakjdihhbndcnaaDoorPCov
namespace Go.Proofs.YtakjdihhbndcnaaDoor
open Go.RowKit
def put (f : Nat → Int) (k : Nat) (x : Int) : Nat → Int := fun j => if j = k then x else f j
theorem put_same (f : Nat → Int) (k : Nat) (x : Int) : put f k x k = x := by unfold put; rw [if_pos rfl]
theorem put_ne (f : Nat → Int) {k j : Nat} (x : Int) (h : j ≠ k) : put f k x j = f j := by unfold put; rw [if_neg h]
theorem row_put {w : World} {g n k : Nat} {F : Nat → Int} (h : w.rowIs g 3 n (ivals F)) (x : Int) : (w.setCell ⟨g, k, none⟩ (.int .i64 x)).rowIs g 3 n (ivals (put F k x)) := (h.set k _).congr fun j _ => by
  unfold ivals put
  by_cases e : j = k
  · rw [if_pos e, if_pos e]
  · rw [if_neg e, if_neg e]
theorem row_of_made {w : World} {g n : Nat} {z : Value} {t : TypeId} (h : w.heap[g]? = some (.cells (madeCells #[z] n) t)) : w.rowIs g t n (fun _ => z) := ⟨_, h, size_madeCells _ _, fun i hi => by simp [madeCells, hi, Nat.mod_one]⟩
/- what the levels are while the members of one row are gone through; behind the first K elements of the order -/
def lvP (l : Nat → Int) (x : Int) (m : List Nat) : Nat → Nat → Int
  | 0 => l
  | q + 1 => put (lvP l x m q) (m.getD q 0) (max (lvP l x m q (m.getD q 0)) x)
def lvK (T : Nat → Nat → Bool) (n : Nat) (o : List Nat) : Nat → Nat → Int
  | 0 => fun _ => 0
  | K + 1 => lvP (lvK T n o K) (lvK T n o K (o.getD K 0) + 1) (rowL T n (o.getD K 0)) (rowL T n (o.getD K 0)).length
theorem lvP_far (l : Nat → Int) (x : Int) (m : List Nat) (j : Nat) (h : j ∉ m) : ∀ q, q ≤ m.length → lvP l x m q j = l j
  | 0, _ => rfl
  | q + 1, hq => by
    have hne : j ≠ m.getD q 0 := fun e => h (by rw [e, List.getD_eq_getElem?_getD, List.getElem?_eq_getElem (by omega)]; exact List.getElem_mem _)
    show put _ _ _ j = l j
    rw [put_ne _ _ hne]; exact lvP_far l x m j h q (by omega)
theorem lvP_bound {l : Nat → Int} {x : Int} {m : List Nat} {b : Int} (h : ∀ j, 0 ≤ l j ∧ l j ≤ b) (h0 : 0 ≤ x) (hx : x ≤ b) : ∀ q j, 0 ≤ lvP l x m q j ∧ lvP l x m q j ≤ b
  | 0, j => h j
  | q + 1, j => by
    have ih := lvP_bound (m := m) h h0 hx q
    show 0 ≤ put _ _ _ j ∧ put _ _ _ j ≤ b
    unfold put
    by_cases e : j = m.getD q 0
    · rw [if_pos e]; have := ih (m.getD q 0); omega
    · rw [if_neg e]; exact ih j
theorem lvK_bound (T : Nat → Nat → Bool) (n : Nat) (o : List Nat) : ∀ K j, 0 ≤ lvK T n o K j ∧ lvK T n o K j ≤ K
  | 0, _ => ⟨Int.le_refl _, Int.le_refl _⟩
  | K + 1, j => by
    have ih := lvK_bound T n o K
    refine lvP_bound (fun j => ?_) ?_ ?_ _ j
    · have := ih j; omega
    · have := ih (o.getD K 0); omega
    · have := ih (o.getD K 0); omega
def LevOk (w : World) (n : Nat) (T : Nat → Nat → Bool) (e : Ending) (w' : World) : Prop :=
  ∃ o g, orderOf n T = some o ∧ e = .returned (.tuple #[.slice (some ⟨g, 0, none⟩) n n, .int .i64 0]) ∧ w.heap.size ≤ g ∧ w'.rowIs g 3 n (ivals (lvK T n o n)) ∧ Below w.heap.size w w'
def LevEnd (w : World) (n : Nat) (R : Nat → RowD) (e : Ending) (w' : World) : Prop :=
  (POrd n R ∧ LevOk w n (mat R) e w') ∨ (¬ POrd n R ∧ e = .returned (.tuple #[.slice none 0 0, .int .i64 1]) ∧ Below w.heap.size w w')
set_option maxRecDepth 100000 in
set_option maxHeartbeats 4000000 in
theorem levels_any (A : Option Addr) (n c : Nat) (R : Nat → RowD) (w : World) (h : Rel w A n R) (hn : n ≤ 1000000) (hT : Tab w) :
    Calls Tryd.prog 26 #[.agg #[.slice A n c]] w (LevEnd w n R) := by
  have HH := Lib.hid h; clear h
  have b0 : Below w.heap.size w (w.alloc (.cells #[.slice A n c] 24)) := (Below.refl _ _).alloc (Nat.le_refl _) _
  have r0 := relAt_new w A n c
  have c0 := r0.c0
  obtain ⟨v, hvv⟩ : ∃ v : Bool, v = true ↔ POrd n R := ⟨@decide _ (Classical.propDecidable _), @decide_eq_true_iff _ (Classical.propDecidable _)⟩
  have HV := Lib.hid hvv
  go_enter Tryd.func26, Tryd.ntmps26
  go_wp2_with fail
  refine (pvalid_any A n c R v _ (HH.out.below b0) hn (hT.below b0) hvv).mono ?_; rintro e w2 ⟨rfl, b2⟩
  have r2 := r0.below b2
  have B2 := below_next b0 b2
  clear r0 b0 b2 c0 hvv
  cases v with
  | false =>
    go_wp2_with fail
    go_ret2
    exact .inr ⟨fun h => (by have := HV.out.2 h; cases this), rfl, B2⟩
  | true =>
    have hP := HV.out.1 rfl
    have hn5 := hP.1.1
    have HP := Lib.hid hP
    have c0 := r2.c0
    have mk := make_ints n (by omega)
    have e3 : (w2.alloc (.cells (madeCells #[.int .i64 0] n) 3)).heap[w2.heap.size]? = some (.cells (madeCells #[.int .i64 0] n) 3) := heap_alloc_new w2 _
    have b3 : Below w2.heap.size w2 (w2.alloc (.cells (madeCells #[.int .i64 0] n) 3)) := (Below.refl _ _).alloc (Nat.le_refl _) _
    have r3 := r2.below b3
    have B3 := below_next B2 b3
    have hR3 : (w2.alloc (.cells (madeCells #[.int .i64 0] n) 3)).rowIs w2.heap.size 3 n (ivals (fun _ => 0)) := row_of_made e3
    have hgl : w.heap.size < w2.heap.size := r2.lt
    clear hP HV e3 b3
    go_upto_region 4 with fail
    clear mk c0 r2 B2
    generalize w2.alloc (.cells (madeCells #[.int .i64 0] n) 3) = w3 at *
    generalize w2.heap.size = g at *
    have c0 := r3.c0
    have HO := Lib.hid (order_ok A n c R w3 (HH.out.below B3) HP.out.1 (hT.below B3))
    unfold OrdEnd at HO
    go_wp2_with fail
    refine HO.out.mono ?_; rintro e w4 (⟨o, vo, ho, rfl, hown, b4⟩ | ⟨ho, _⟩)
    · obtain ⟨Ao, co, rfl, hIo, _⟩ := own_ints hown
      have r4 := r3.below b4
      have B4 := below_next B3 b4
      have hR4 : w4.rowIs g 3 n (ivals (lvK (mat R) n o 0)) := hR3.of_block (b4.block g hR3.lt)
      obtain ⟨hto, hol⟩ := order_topo ho
      have HIN : Hid (∀ K, K < o.length → o.getD K 0 < n) := Lib.hid fun K hK => by
        rw [List.getD_eq_getElem?_getD, List.getElem?_eq_getElem hK]
        exact hto.lt _ (List.getElem_mem hK)
      have HO2 := Lib.hid ho
      have HI : Hid (∀ wr : World, (∀ b, b < w4.heap.size → b ≠ g → wr.heap[b]? = w4.heap[b]?) → w4.heap.size ≤ wr.heap.size → Ints wr Ao o.length (gets o)) := Lib.hid fun wr hk hs => fun hpos => by
        obtain ⟨b, off, hA, hlt, hc⟩ := hIo hpos
        subst hA
        have hbb := hown.lt b rfl
        have hne : b ≠ g := by have := hR3.lt; omega
        exact ⟨b, off, rfl, by omega, fun k hk2 => (World.cell?_of_block (w := w4) (hk b hlt hne)).trans (hc k hk2)⟩
      clear r3 B3 hR3 c0 HO ho hown hIo hto b4
      go_wp2_with fail
      go_loopw [25] (fun i wr => ∃ K : Nat, K ≤ o.length ∧ i = .int .i64 K ∧ wr.rowIs g 3 n (ivals (lvK (mat R) n o K)) ∧ RelAt wr w.heap.size A n c ∧ Below w.heap.size w wr ∧ Hid (∀ b, b < w4.heap.size → b ≠ g → wr.heap[b]? = w4.heap[b]?) ∧ w4.heap.size ≤ wr.heap.size) (fun i _ => o.length - (intOf i).toNat)
      case atStart => exact ⟨0, Nat.zero_le _, rfl, hR4, r4, B4, Lib.hid (fun _ _ _ => rfl), Nat.le_refl _⟩
      case round =>
        clear hR4 r4 B4
        obtain ⟨K, hK, rfl, hR, hr, hB, hk4, hs4⟩ := hrel
        by_cases hlt : K < o.length
        · obtain ⟨bo, oo, rfl, hbo, hco⟩ := (HI.out wr hk4.out hs4) (by omega)
          have y0 := hco K hlt
          have hin := HIN.out K hlt
          unfold gets at y0
          obtain ⟨i, hi⟩ : ∃ i, i = o.getD K 0 := ⟨_, rfl⟩
          rw [← hi] at y0 hin
          have HII := Lib.hid hi
          obtain ⟨b, off, rfl, hbl, hcz⟩ := (HH.out.below hB) (by omega)
          obtain ⟨x0, x1, xw⟩ := hcz i hin
          have hvk := HP.out.1.2 i hin
          have hwrap : IntKind.i64.wrap ((K : Int) + 1) = (K : Int) + 1 := IntWalk.i64_in _ (by omega)
          have c0 := hr.c0
          have HM := Lib.hid (pmembers_any n (R i) wr xw hvk (hT.below hB))
          unfold RowOut at HM
          have hmi : Hid (∀ j, j ∈ (List.range n).filter (bt (R i).f) → j < n ∧ j ≠ i) := Lib.hid fun j hj => by
            rw [List.mem_filter, List.mem_range] at hj
            refine ⟨hj.1, fun e => ?_⟩
            have h1 := (HP.out.2 i hin).1
            rw [e] at hj
            have h2 : mat R i i = true := hj.2
            rw [h1] at h2; cases h2
          have hst : Hid (lvK (mat R) n o (K + 1) = lvP (lvK (mat R) n o K) (lvK (mat R) n o K i + 1) ((List.range n).filter (bt (R i).f)) ((List.range n).filter (bt (R i).f)).length) := by
            show _ = _
            rw [hi]; rfl
          have hlb := lvK_bound (mat R) n o K
          have hll : ((List.range n).filter (bt (R i).f)).length ≤ n := by
            have := List.length_filter_le (bt (R i).f) (List.range n)
            simpa using this
          generalize (List.range n).filter (bt (R i).f) = m at *
          generalize lvK (mat R) n o K = l at *
          have hgr := hR.lt
          have HB := Lib.hid hB
          have HK4 := hk4
          clear hco hcz xw hvk hi hk4
          go_wp2_with fail
          clear y0 x0 x1 c0
          refine HM.out.mono ?_; rintro e w5 ⟨vm, rfl, hown, b5⟩
          obtain ⟨Am, cm, rfl, hIm, _⟩ := own_ints hown
          have hR5 : w5.rowIs g 3 n (ivals (lvP l (l i + 1) m 0)) := hR.of_block (b5.block g hgr)
          have hr5 := hr.below b5
          have B5 := below_next HB.out b5
          have hk5 : Hid (∀ b, b < w4.heap.size → b ≠ g → w5.heap[b]? = w4.heap[b]?) := Lib.hid fun b hb hne => (b5.block b (by omega)).trans (HK4.out b hb hne)
          have hs5 : w4.heap.size ≤ w5.heap.size := Nat.le_trans hs4 b5.size
          have HIm : Hid (∀ wr : World, (∀ b, b < w5.heap.size → b ≠ g → wr.heap[b]? = w5.heap[b]?) → Ints wr Am m.length (gets m)) := Lib.hid fun wr hk => fun hpos => by
            obtain ⟨b, off, hA, hlt, hc⟩ := hIm hpos
            subst hA
            have hbb := hown.lt b rfl
            have hne : b ≠ g := by omega
            have hsz : b < wr.heap.size := by
              have e := hk b hlt hne
              have h1 : b < w5.heap.size := hlt
              have h2 : w5.heap[b]? = some w5.heap[b] := by simp [h1]
              rw [h2] at e
              exact lt_of_block e
            exact ⟨b, off, rfl, hsz, fun k hk2 => (World.cell?_of_block (w := w5) (hk b hlt hne)).trans (hc k hk2)⟩
          clear hR hr hB HB HK4 b5 HM hown hIm hs4
          go_wp2_with fail
          go_loopw [36] (fun x wr => ∃ q : Nat, q ≤ m.length ∧ x = .int .i64 q ∧ wr.rowIs g 3 n (ivals (lvP l (l i + 1) m q)) ∧ RelAt wr w.heap.size (some ⟨b, off, none⟩) n c ∧ Below w.heap.size w wr ∧ Hid (∀ b, b < w5.heap.size → b ≠ g → wr.heap[b]? = w5.heap[b]?) ∧ w5.heap.size ≤ wr.heap.size) (fun x _ => m.length - (intOf x).toNat)
          case atStart => exact ⟨0, Nat.zero_le _, rfl, hR5, hr5, B5, Lib.hid (fun _ _ _ => rfl), Nat.le_refl _⟩
          case round =>
            clear hR5 hr5 B5
            obtain ⟨q, hq, rfl, hR, hr, hB, hkw, hsw⟩ := hrel
            by_cases hlt2 : q < m.length
            · obtain ⟨bm, om, rfl, hbm, hcm⟩ := (HIm.out wr hkw.out) (by omega)
              have z0 := hcm q hlt2
              have hmem : m.getD q 0 ∈ m := by rw [List.getD_eq_getElem?_getD, List.getElem?_eq_getElem hlt2]; exact List.getElem_mem hlt2
              obtain ⟨hjn, hji⟩ := hmi.out _ hmem
              unfold gets at z0
              have hst2 : Hid (lvP l (l i + 1) m (q + 1) = put (lvP l (l i + 1) m q) (m.getD q 0) (max (lvP l (l i + 1) m q (m.getD q 0)) (l i + 1))) := rfl
              obtain ⟨j, hj⟩ : ∃ j, j = m.getD q 0 := ⟨_, rfl⟩
              rw [← hj] at z0 hjn hji hst2
              have hfar : lvP l (l i + 1) m q i = l i := lvP_far l (l i + 1) m i (fun h => (hmi.out i h).2 rfl) q (by omega)
              have hwrap2 : IntKind.i64.wrap ((q : Int) + 1) = (q : Int) + 1 := IntWalk.i64_in _ (by omega)
              have hbi := hlb i
              have hbo2 := lvP_bound (l := l) (m := m) (x := l i + 1) (b := (K : Int) + 1) (fun j => by have := hlb j; omega) (by omega) (by omega) q j
              have hw3 : IntKind.i64.wrap (l i + 1) = l i + 1 := IntWalk.i64_in _ (by omega)
              have u1 : wr.cell? ⟨g, j, none⟩ = some (.int .i64 (lvP l (l i + 1) m q j)) := hR.cell hjn
              have u2 : wr.cell? ⟨g, i, none⟩ = some (.int .i64 (l i)) := by
                have : wr.cell? ⟨g, i, none⟩ = some (.int .i64 (lvP l (l i + 1) m q i)) := hR.cell hin
                rw [hfar] at this; exact this
              have f1 := hR.frozen j
              have hR2 := row_put (k := j) hR (max (lvP l (l i + 1) m q j) (l i + 1))
              rw [← hst2.out] at hR2
              have hgw : w.heap.size ≤ g := Nat.le_of_lt hgl
              have hr2 := hr.far (q := ⟨g, j, none⟩) (by show w.heap.size ≠ g; omega) (.int .i64 (max (lvP l (l i + 1) m q j) (l i + 1)))
              have hB2 := hB.setCell (p := ⟨g, j, none⟩) (by exact hgw) (.int .i64 (max (lvP l (l i + 1) m q j) (l i + 1)))
              have hk2 : Hid (∀ b, b < w5.heap.size → b ≠ g → (wr.setCell ⟨g, j, none⟩ (.int .i64 (max (lvP l (l i + 1) m q j) (l i + 1)))).heap[b]? = w5.heap[b]?) := Lib.hid fun b hb hne => (Below.heap_setCell _ _ _ _ (by exact hne)).trans (hkw.out b hb hne)
              have HR2 := Lib.hid hR2
              have HB2 := Lib.hid hB2
              have HRR2 := Lib.hid hr2
              generalize lvP l (l i + 1) m q j = y at *
              generalize l i = x at *
              clear hR hr hB hkw hR2 hB2 hr2 hcm hmem hj hst2 hfar
              go_upto_region 11 with fail
              go_still_tail 13, (by kernel_rfl)
              change wpList _ _ _ _ _ wr.drew
              have f2 : wr.drew.frozen? ⟨g, j, none⟩ = false := f1
              have u3 : wr.drew.cell? ⟨g, j, none⟩ = some (.int .i64 y) := u1
              have HR3 : Hid ((wr.drew.setCell ⟨g, j, none⟩ (.int .i64 (max y (x + 1)))).rowIs g 3 n (ivals (lvP l (x + 1) m (q + 1)))) := Lib.hid (HR2.out.of_block rfl)
              have HRR3 : Hid (RelAt (wr.drew.setCell ⟨g, j, none⟩ (.int .i64 (max y (x + 1)))) w.heap.size (some ⟨b, off, none⟩) n c) := Lib.hid HRR2.out
              have HB3 : Hid (Below w.heap.size w (wr.drew.setCell ⟨g, j, none⟩ (.int .i64 (max y (x + 1))))) := Lib.hid ⟨HB2.out.os, HB2.out.tape, HB2.out.output, HB2.out.size, HB2.out.block⟩
              have hk3 : Hid (∀ b, b < w5.heap.size → b ≠ g → (wr.drew.setCell ⟨g, j, none⟩ (.int .i64 (max y (x + 1)))).heap[b]? = w5.heap[b]?) := Lib.hid hk2.out
              have hs3 : w5.heap.size ≤ (wr.drew.setCell ⟨g, j, none⟩ (.int .i64 (max y (x + 1)))).heap.size := by simpa using hsw
              clear HR2 HB2 HRR2 hk2 u1 u2 f1
              generalize wr.drew = W1 at *
              go_wp2_with fail
              go_roundw
              case rel =>
                rw [show (if y < x + 1 then x + 1 else y) = max y (x + 1) by split <;> omega]
                exact ⟨q + 1, hlt2, by go_num, HR3.out, HRR3.out, HB3.out, hk3, hs3⟩
              case measure => simp [intOf]; omega
            · obtain rfl : q = m.length := by omega
              have hR9 : wr.rowIs g 3 n (ivals (lvK (mat R) n o (K + 1))) := by rw [hst.out]; exact hR
              have hk9 : Hid (∀ b, b < w4.heap.size → b ≠ g → wr.heap[b]? = w4.heap[b]?) := Lib.hid fun b hb hne => (hkw.out b (by omega) hne).trans (hk5.out b hb hne)
              clear hkw hst hR
              go_wp2_with fail
              go_roundw
              case rel => exact ⟨K + 1, hlt, by go_num, hR9, hr, hB, hk9, by omega⟩
              case measure => simp [intOf]; omega
        · obtain rfl : K = o.length := by omega
          have hRn : wr.rowIs g 3 n (ivals (lvK (mat R) n o n)) := by have := hR; rw [hol] at this; exact this
          go_wp2_with fail
          go_ret2
          exact .inl ⟨HP.out, o, g, HO2.out, rfl, by omega, hRn, hB⟩
    · have := pord_order HP.out.2
      rw [ho] at this; cases this
end Go.Proofs.YtakjdihhbndcnaaDoor
