/- The contract of flow.Paths. -/
import Derived.Test.YtjdceafkcakbjaaFTk
import Derived.Test.YtjdceafkcakbjaaFCkB
namespace Go.Proofs.Ytjdceafkcakbjaa
open Go.RowKit
theorem Try.info25 : (Try.prog.info? 25).map (fun i => (i.zero, i.size, i.bytes)) = some (some (.slice none 0 0), 1, 24) := by kernel_rfl
theorem make_lists (n : Nat) (h : n ≤ 1000000) : ∀ w : World, (Instr.makeSlice 45 (.int .i64 (n : Int)) (.int .i64 (n : Int))).run Try.prog w = .ok (.slice (some ⟨w.heap.size, 0, none⟩) n n) (w.alloc (.cells (madeCells #[.slice none 0 0] n) 25)) :=
  fun w => run_make_row' (P := Try.prog) 45 25 (.slice none 0 0) 24 Try.underlying45 Try.info25 rfl .i64 .i64 n (by omega) (by omega) w
/- the first D of the paths, in memory -/
structure PsAt (w : World) (base gP V D : Nat) (ps : Nat → List Nat) : Prop where
  row : ∃ G, w.rowIs gP 25 V G ∧ ∀ k, k < D → ∃ g c, G k = .slice (some ⟨g, 0, none⟩) (ps k).length c ∧ LAt w g (ps k) ∧ base ≤ g ∧ g ≠ gP ∧ (ps k).length ≤ c
  bp : base ≤ gP
theorem PsAt.of_block {w w' : World} {base gP V D : Nat} {ps : Nat → List Nat} (h : PsAt w base gP V D ps) (e : ∀ b, base ≤ b → b < w.heap.size → w'.heap[b]? = w.heap[b]?) : PsAt w' base gP V D ps := by
  obtain ⟨G, h1, h2⟩ := h.row
  exact ⟨⟨G, h1.of_block (e gP h.bp h1.lt), fun k hk => by
    obtain ⟨g, c, h3, h4, h5, h6, h7⟩ := h2 k hk
    exact ⟨g, c, h3, h4.of_block (e g h5 h4.lt), h5, h6, h7⟩⟩, h.bp⟩
theorem PsAt.put {w : World} {base gP V D g c : Nat} {ps : Nat → List Nat} {p : List Nat} (h : PsAt w base gP V D ps) (hl : LAt w g p) (hg : base ≤ g) (hne : g ≠ gP) (hc : p.length ≤ c) :
    PsAt (w.setCell ⟨gP, D, none⟩ (.slice (some ⟨g, 0, none⟩) p.length c)) base gP V (D + 1) (fun k => if k = D then p else ps k) := by
  obtain ⟨G, h1, h2⟩ := h.row
  refine ⟨⟨_, h1.set D _, fun k hk => ?_⟩, h.bp⟩
  by_cases e : k = D
  · subst e
    refine ⟨g, c, by rw [if_pos rfl, if_pos rfl], ?_, hg, hne, by rw [if_pos rfl]; exact hc⟩
    rw [if_pos rfl]
    exact hl.of_block (Below.heap_setCell _ _ _ g (by exact hne))
  · obtain ⟨g', c', h3, h4, h5, h6, h7⟩ := h2 k (by omega)
    refine ⟨g', c', by rw [if_neg e, if_neg e]; exact h3, ?_, h5, h6, by rw [if_neg e]; exact h7⟩
    rw [if_neg e]
    exact h4.of_block (Below.heap_setCell _ _ _ g' (by exact h6))
/- how often the first D paths step along the flat pair j -/
def us (n : Nat) (ps : Nat → List Nat) : Nat → Nat → Int
  | 0, _ => 0
  | D + 1, j => us n ps D j + fc n (ps D) (ps D).length j
theorem us_congr {n : Nat} {ps qs : Nat → List Nat} : ∀ {D : Nat}, (∀ k, k < D → ps k = qs k) → ∀ j, us n ps D j = us n qs D j
  | 0, _, _ => rfl
  | D + 1, h, j => by
    show us n ps D j + _ = us n qs D j + _
    rw [us_congr (fun k hk => h k (by omega)) j, h D (by omega)]
theorem us_next (n D : Nat) (ps : Nat → List Nat) (p : List Nat) (j : Nat) : us n (fun k => if k = D then p else ps k) (D + 1) j = us n ps D j + fc n p p.length j := by
  show us n _ D j + fc n (if D = D then p else ps D) (if D = D then p else ps D).length j = _
  rw [if_pos rfl, us_congr (qs := ps) (fun k hk => by rw [if_neg (by omega)]) j]
def PErr (w : World) (er : Int) (e : Ending) (w' : World) : Prop := e = .returned (.tuple #[.slice none 0 0, .int .i64 er]) ∧ Below w.heap.size w w'
def PthOk (w : World) (N : Net) (s t V : Nat) (l : Nat → Int) (e : Ending) (w' : World) : Prop :=
  ∃ base gP ps f, e = .returned (.tuple #[.slice (some ⟨gP, 0, none⟩) V V, .int .i64 0]) ∧ PsAt w' base gP V V ps ∧ (∀ k, k < V → N.Path s t (ps k)) ∧ (∀ i, i < N.m → 0 ≤ f i) ∧ (∀ j, N.eS l j - N.eS f j = us N.n ps V j) ∧ w.heap.size ≤ base ∧ Below w.heap.size w w'
theorem pth_arg (N s t er : Int) (m c ml cl : Nat) (A L : Option Addr) (w : World) (her : er = 1 ∨ er = 2)
    (C : Hid (∀ u, Below w.heap.size w u → Calls Try.prog 39 #[.agg #[.int .i64 N, .slice A m c], .int .i64 s, .int .i64 t] u fun e w' => e = .returned (.int .i64 er) ∧ Below u.heap.size u w')) :
    Calls Try.prog 26 #[.agg #[.int .i64 N, .slice A m c], .int .i64 s, .int .i64 t, .slice L ml cl] w (PErr w er) := by
  have n0 := netAt_new w N A m c
  have b0 := below_new w (.cells #[.int .i64 N, .slice A m c] 24)
  have c0 := n0.c0
  have c1 := n0.c1
  have q1 : (er != 0) = true := bne_iff_ne.2 (by omega)
  clear her
  go_enter Try.func26, Try.ntmps26
  go_wp2_with fail
  refine (C.out _ b0).mono ?_; rintro e w1 ⟨rfl, b1⟩
  have B1 := below_next b0 b1
  go_wp2_with fail
  go_ret2
  exact ⟨rfl, B1⟩
theorem pth_flow (N s t : Int) (m c ml cl : Nat) (A L : Option Addr) (w : World)
    (C : Hid (∀ u, Below w.heap.size w u → Calls Try.prog 39 #[.agg #[.int .i64 N, .slice A m c], .int .i64 s, .int .i64 t] u fun e w' => e = .returned (.int .i64 0) ∧ Below u.heap.size u w'))
    (D : Hid (∀ u, Below w.heap.size w u → Calls Try.prog 40 #[.agg #[.int .i64 N, .slice A m c], .int .i64 s, .int .i64 t, .slice L ml cl] u fun e w' => e = .returned (.bool false) ∧ Below u.heap.size u w')) :
    Calls Try.prog 26 #[.agg #[.int .i64 N, .slice A m c], .int .i64 s, .int .i64 t, .slice L ml cl] w (PErr w 17) := by
  have n0 := netAt_new w N A m c
  have b0 := below_new w (.cells #[.int .i64 N, .slice A m c] 24)
  have c0 := n0.c0
  have c1 := n0.c1
  go_enter Try.func26, Try.ntmps26
  go_wp2_with fail
  refine (C.out _ b0).mono ?_; rintro e w1 ⟨rfl, b1⟩
  have n1 := n0.below b1
  have B1 := below_next b0 b1
  clear n0 b0 b1 c0 c1 C
  have c0 := n1.c0
  have c1 := n1.c1
  go_wp2_with fail
  refine (D.out _ B1).mono ?_; rintro e w2 ⟨rfl, b2⟩
  have B2 := below_next B1 b2
  go_wp2_with fail
  go_ret2
  exact ⟨rfl, B2⟩
theorem pth_val (N s t V er : Int) (m c ml cl : Nat) (A L : Option Addr) (w : World) (hV : (V < 0 ∧ er = 17) ∨ (1000 < V ∧ er = 5))
    (C : Hid (∀ u, Below w.heap.size w u → Calls Try.prog 39 #[.agg #[.int .i64 N, .slice A m c], .int .i64 s, .int .i64 t] u fun e w' => e = .returned (.int .i64 0) ∧ Below u.heap.size u w'))
    (D : Hid (∀ u, Below w.heap.size w u → Calls Try.prog 40 #[.agg #[.int .i64 N, .slice A m c], .int .i64 s, .int .i64 t, .slice L ml cl] u fun e w' => e = .returned (.bool true) ∧ Below u.heap.size u w'))
    (F : Hid (∀ u, Below w.heap.size w u → Calls Try.prog 42 #[.agg #[.int .i64 N, .slice A m c], .int .i64 s, .slice L ml cl] u fun e w' => e = .returned (.int .i64 V) ∧ Below u.heap.size u w')) :
    Calls Try.prog 26 #[.agg #[.int .i64 N, .slice A m c], .int .i64 s, .int .i64 t, .slice L ml cl] w (PErr w er) := by
  rcases hV with ⟨hV, rfl⟩ | ⟨hV, rfl⟩
  · have q1 : decide (V < 0) = true := decide_eq_true hV
    clear hV
    have n0 := netAt_new w N A m c
    have b0 := below_new w (.cells #[.int .i64 N, .slice A m c] 24)
    have c0 := n0.c0
    have c1 := n0.c1
    go_enter Try.func26, Try.ntmps26
    go_wp2_with fail
    refine (C.out _ b0).mono ?_; rintro e w1 ⟨rfl, b1⟩
    have n1 := n0.below b1
    have B1 := below_next b0 b1
    clear n0 b0 b1 c0 c1 C
    have c0 := n1.c0
    have c1 := n1.c1
    go_wp2_with fail
    refine (D.out _ B1).mono ?_; rintro e w2 ⟨rfl, b2⟩
    have n2 := n1.below b2
    have B2 := below_next B1 b2
    clear n1 B1 b2 c0 c1 D
    have c0 := n2.c0
    have c1 := n2.c1
    go_wp2_with fail
    refine (F.out _ B2).mono ?_; rintro e w3 ⟨rfl, b3⟩
    have B3 := below_next B2 b3
    go_wp2_with fail
    go_ret2
    exact ⟨rfl, B3⟩
  · have q1 : decide (V < 0) = false := decide_eq_false (by omega)
    have q2 : decide (1000 < V) = true := decide_eq_true hV
    clear hV
    have n0 := netAt_new w N A m c
    have b0 := below_new w (.cells #[.int .i64 N, .slice A m c] 24)
    have c0 := n0.c0
    have c1 := n0.c1
    go_enter Try.func26, Try.ntmps26
    go_wp2_with fail
    refine (C.out _ b0).mono ?_; rintro e w1 ⟨rfl, b1⟩
    have n1 := n0.below b1
    have B1 := below_next b0 b1
    clear n0 b0 b1 c0 c1 C
    have c0 := n1.c0
    have c1 := n1.c1
    go_wp2_with fail
    refine (D.out _ B1).mono ?_; rintro e w2 ⟨rfl, b2⟩
    have n2 := n1.below b2
    have B2 := below_next B1 b2
    clear n1 B1 b2 c0 c1 D
    have c0 := n2.c0
    have c1 := n2.c1
    go_wp2_with fail
    refine (F.out _ B2).mono ?_; rintro e w3 ⟨rfl, b3⟩
    have B3 := below_next B2 b3
    go_wp2_with fail
    go_ret2
    exact ⟨rfl, B3⟩
set_option maxRecDepth 100000 in
set_option maxHeartbeats 8000000 in
theorem pth_ok (n s t m c cl V : Nat) (A L : Option Addr) (E : Nat → EdgeD) (l : Nat → Int) (w : World) (h : Edges w A m E) (hv : VNet n m E) (hL : Ints w L m l) (hs : s < n) (ht : t < n) (hst : s ≠ t) (hf : FlowP n m m s t E l) (hV : (netOf n m E).bal l s = V) (hV2 : V ≤ 1000) :
    Calls Try.prog 26 #[.agg #[.int .i64 n, .slice A m c], .int .i64 s, .int .i64 t, .slice L m cl] w (PthOk w (netOf n m E) s t V l) := by
  have hp : Pair n s t := ⟨by omega, by omega, by omega⟩
  have hfl : (netOf n m E).Flow s t l := ⟨fun i hi => (hf.2.1 i hi).1, fun i hi => (hf.2.1 i hi).2, fun v hv h1 h2 => by
    rcases hf.2.2 v hv with h3 | h3 | h3
    · exact h3
    · exact absurd h3 h1
    · exact absurd h3 h2⟩
  have hrg : ∀ i, i < m → 0 ≤ l i ∧ l i ≤ 1125899906842624 := fun i hi => ⟨hfl.r0 i hi, Int.le_trans (hfl.r1 i hi) (hv.ok.c1 i hi)⟩
  have C : Hid (∀ u, Below w.heap.size w u → Calls Try.prog 39 #[.agg #[.int .i64 n, .slice A m c], .int .i64 s, .int .i64 t] u fun e w' => e = .returned (.int .i64 0) ∧ Below u.heap.size u w') := fun u hu => argErr_ok n s t A m c E u (h.below hu) hv hp
  have D : Hid (∀ u, Below w.heap.size w u → Calls Try.prog 40 #[.agg #[.int .i64 n, .slice A m c], .int .i64 s, .int .i64 t, .slice L m cl] u fun e w' => e = .returned (.bool true) ∧ Below u.heap.size u w') := fun u hu => isFlow_any n s t m m c cl true A L E l u (h.below hu) hv (hL.below hu) (yes_iff hf)
  have F : Hid (∀ u, Below w.heap.size w u → Calls Try.prog 42 #[.agg #[.int .i64 n, .slice A m c], .int .i64 s, .slice L m cl] u fun e w' => e = .returned (.int .i64 (V : Int)) ∧ Below u.heap.size u w') := fun u hu => by
    rw [← hV]; exact value_any n m c cl s A L E l u (h.below hu) hv (hL.below hu) hrg hs
  have G : Hid (∀ u, Below w.heap.size w u → Calls Try.prog 46 #[.agg #[.int .i64 n, .slice A m c], .slice L m cl] u (NewEnd u (netOf n m E) l)) := fun u hu => new_any n m c A E L cl l u (h.below hu) hv (hL.below hu)
  have T : Hid (∀ lim gr gA gF f u, Rsd u (netOf n m E) gr gA gF (rest0 f) → (netOf n m E).Flow s t f → 0 < (netOf n m E).bal f s → lim ≤ gA → Calls Try.prog 55 #[.pointer (some ⟨gr, 0, none⟩), .int .i64 s, .int .i64 t] u (TkEnd u lim (netOf n m E) gr gA gF s t f)) := fun lim gr gA gF f u h1 h2 h3 h4 => take_any lim (netOf n m E) gr gA gF s t f u h1 hv.ok hs ht hst h2 h3 h4
  have HFL := Lib.hid hfl
  have HVV := Lib.hid hV
  have hmk := make_lists V (by omega)
  have q1 : decide ((V : Int) < 0) = false := decide_eq_false (by omega)
  have q2 : decide ((1000 : Int) < (V : Int)) = false := decide_eq_false (by omega)
  have n0 := netAt_new w n A m c
  have b0 := below_new w (.cells #[.int .i64 n, .slice A m c] 24)
  clear h hv hL hs ht hst hf hV hp hfl hrg
  have c0 := n0.c0
  have c1 := n0.c1
  go_enter Try.func26, Try.ntmps26
  go_wp2_with fail
  refine (C.out _ b0).mono ?_; rintro e w1 ⟨rfl, b1⟩
  have n1 := n0.below b1
  have B1 := below_next b0 b1
  clear n0 b0 b1 c0 c1 C
  have c0 := n1.c0
  have c1 := n1.c1
  go_wp2_with fail
  refine (D.out _ B1).mono ?_; rintro e w2 ⟨rfl, b2⟩
  have n2 := n1.below b2
  have B2 := below_next B1 b2
  clear n1 B1 b2 c0 c1 D
  have c0 := n2.c0
  have c1 := n2.c1
  go_wp2_with fail
  refine (F.out _ B2).mono ?_; rintro e w3 ⟨rfl, b3⟩
  have n3 := n2.below b3
  have B3 := below_next B2 b3
  clear n2 B2 b3 c0 c1 F
  have c0 := n3.c0
  have c1 := n3.c1
  go_wp2_with fail
  refine (G.out _ B3).mono ?_; rintro e w4 ⟨gr, gA, gF, rfl, hR, hgr, hgA, hgF, b4⟩
  have B4 := below_next B3 b4
  have hl3 := B3.size
  have hlA := (ResB.arcs hR).lt
  have hlF := (ResB.first hR).lt
  have hlr := lt_of_block (ResB.box hR)
  have hR5 := ResB.below hR (below_new w4 (.cells (madeCells #[.slice none 0 0] V) 25))
  have B5 := B4.alloc B4.size (.cells (madeCells #[.slice none 0 0] V) 25)
  have hP5 : PsAt (w4.alloc (.cells (madeCells #[.slice none 0 0] V) 25)) w4.heap.size w4.heap.size V 0 (fun _ => []) := ⟨⟨_, World.rowIs_made w4 (.slice none 0 0) V 25, fun k hk => absurd hk (Nat.not_lt_zero _)⟩, Nat.le_refl _⟩
  have hval0 : Hid ((netOf n m E).bal l s = (V : Int) - ((0 : Nat) : Int)) := by show _ = _; rw [HVV.out]; simp
  have huse0 : Hid (∀ j, (netOf n m E).eS l j - (netOf n m E).eS l j = us n (fun _ => []) 0 j) := fun j => by show _ = (0 : Int); omega
  clear n3 B3 b4 c0 c1 G hR B4
  go_wp2_with fail
  clear hmk q1 q2
  have hb4 : w.heap.size ≤ w4.heap.size := by omega
  have hbr : gr < w4.heap.size ∧ gA < w4.heap.size ∧ gF < w4.heap.size := ⟨hlr, hlA, hlF⟩
  generalize w4.alloc (.cells (madeCells #[.slice none 0 0] V) 25) = W at *
  generalize w4.heap.size = bs at *
  go_loopw [14, 45] (fun _ i wr => ∃ (D : Nat) (f : Nat → Int) (ps : Nat → List Nat), D ≤ V ∧ i = .int .i64 D ∧ Rsd wr (netOf n m E) gr gA gF (rest0 f) ∧ PsAt wr bs bs V D ps ∧ Hid (∀ k, k < D → (netOf n m E).Path s t (ps k)) ∧ Hid ((netOf n m E).Flow s t f) ∧ Hid ((netOf n m E).bal f s = (V : Int) - (D : Int)) ∧ Hid (∀ j, (netOf n m E).eS l j - (netOf n m E).eS f j = us n ps D j) ∧ Below w.heap.size w wr) (fun _ i _ => V - (intOf i).toNat)
  case atStart => exact ⟨0, l, fun _ => [], by omega, rfl, hR5, hP5, (show Hid _ from fun k hk => absurd hk (Nat.not_lt_zero _)), HFL, hval0, huse0, B5⟩
  case round =>
    clear hR5 hP5 hval0 huse0 B5
    obtain ⟨D, f, ps, hD, rfl, hR, hP, hpa, hfl, hva, huse, hB⟩ := hrel
    have hwrap : IntKind.i64.wrap ((D : Int) + 1) = (D : Int) + 1 := IntWalk.i64_in _ (by omega)
    by_cases hlt : D < V
    · have hT := Lib.hid (T.out w.heap.size gr gA gF f wr hR hfl.out (by rw [hva.out]; omega) (by omega))
      have hPr := Lib.hid hP
      have hszP : bs < wr.heap.size := by obtain ⟨G, h1, _⟩ := hP.row; exact h1.lt
      clear hP hR
      go_wp2_with fail
      refine hT.out.mono ?_
      rintro e w9 ⟨g, cg, p, f2, rfl, hlat, hpc, htk, hR9, hg9, b9, hfr⟩
      have hP9 : PsAt w9 bs bs V D ps := hPr.out.of_block (fun b h1 h2 => hfr b (by omega) h2)
      have hB9 := hB.trans b9
      have hP10 := hP9.put (c := cg) hlat (by omega) (by omega) hpc
      have hR10 := ResB.far hR9 (q := ⟨bs, D, none⟩) (by show gr ≠ bs; omega) (by show gA ≠ bs; omega) (by show gF ≠ bs; omega) (.slice (some ⟨g, 0, none⟩) p.length cg)
      have hB10 := hB9.setCell (p := ⟨bs, D, none⟩) (by show w.heap.size ≤ bs; omega) (.slice (some ⟨g, 0, none⟩) p.length cg)
      have hcell : ∃ u, w9.cell? ⟨bs, D, none⟩ = some u := by obtain ⟨G, h1, _⟩ := hP9.row; exact ⟨_, h1.cell hlt⟩
      obtain ⟨u, hu⟩ := hcell
      have hfz : w9.frozen? ⟨bs, D, none⟩ = false := by obtain ⟨G, h1, _⟩ := hP9.row; exact h1.frozen D
      have hpa2 : Hid (∀ k, k < D + 1 → (netOf n m E).Path s t ((fun k => if k = D then p else ps k) k)) := fun k hk => by
        show (netOf n m E).Path s t (if k = D then p else ps k)
        by_cases e : k = D
        · rw [if_pos e]; exact htk.path
        · rw [if_neg e]; exact hpa.out k (by omega)
      have hva2 : Hid ((netOf n m E).bal f2 s = (V : Int) - ((D + 1 : Nat) : Int)) := by show _ = _; rw [htk.val, hva.out]; omega
      have huse2 : Hid (∀ j, (netOf n m E).eS l j - (netOf n m E).eS f2 j = us n (fun k => if k = D then p else ps k) (D + 1) j) := fun j => by
        rw [us_next]
        have h1 := huse.out j
        have h2 := htk.use j
        have h3 : (netOf n m E).n = n := rfl
        rw [h3] at h2
        omega
      have hfl2 := Lib.hid htk.flow
      clear hT hPr hlat htk hR9 b9 hfr hP9 hB9 hB hpa hva huse hfl
      go_wp2_with fail
      go_roundw
      case rel => exact ⟨D + 1, f2, _, by omega, by go_num, hR10, hP10, hpa2, hfl2, hva2, huse2, hB10⟩
      case measure => simp [intOf]; omega
    · obtain rfl : D = V := by omega
      go_wp2_with fail
      go_ret2
      exact ⟨bs, bs, ps, f, rfl, hP, hpa.out, hfl.out.r0, huse.out, hb4, hB⟩
end Go.Proofs.Ytjdceafkcakbjaa
