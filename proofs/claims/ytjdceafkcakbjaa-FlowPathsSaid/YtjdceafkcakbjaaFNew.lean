/- The contract of newResidual. -/
import Derived.Test.YtjdceafkcakbjaaFPut
import Derived.Deep.CutRange
import Derived.Deep.DeepCutAuto
import Derived.Deep.RegionHeld3
import Derived.StillTailTactics
namespace Go.Proofs.Ytjdceafkcakbjaa
open Go.RowKit
def netOf (n m : Nat) (E : Nat → EdgeD) : Net := ⟨n, m, fun i => (E i).f.toNat, fun i => (E i).t.toNat, fun i => (E i).c⟩
theorem VNet.ok {n m : Nat} {E : Nat → EdgeD} (h : VNet n m E) : (netOf n m E).Ok where
  n1 := by have := h.1; show 1 ≤ n; omega
  n2 := by have := h.2.1; show n ≤ 512; omega
  m2 := h.2.2.1
  fr := fun i hi => by have := (h.2.2.2 i hi).1.2.1; show (E i).f.toNat < n; omega
  tt := fun i hi => by have := (h.2.2.2 i hi).1.2.2; show (E i).t.toNat < n; omega
  ne := fun i hi => by have h1 := (h.2.2.2 i hi).1; show (E i).f.toNat ≠ (E i).t.toNat; have := h1.1; have := h1.2.1; have := h1.2.2; omega
  c0 := fun i hi => (h.2.2.2 i hi).2.1
  c1 := fun i hi => (h.2.2.2 i hi).2.2
theorem VNet.fr {n m : Nat} {E : Nat → EdgeD} (h : VNet n m E) {i : Nat} (hi : i < m) : (E i).f = (((netOf n m E).fr i : Nat) : Int) := by
  have := (h.2.2.2 i hi).1.2.1
  show (E i).f = (((E i).f.toNat : Nat) : Int); omega
theorem VNet.tt {n m : Nat} {E : Nat → EdgeD} (h : VNet n m E) {i : Nat} (hi : i < m) : (E i).t = (((netOf n m E).tt i : Nat) : Int) := by
  have := (h.2.2.2 i hi).1.2.2
  show (E i).t = (((E i).t.toNat : Nat) : Int); omega
theorem Try.info71 : (Try.prog.info? 71).map (fun i => (i.zero, i.size, i.bytes)) = some (some (.agg #[.int .i64 0, .int .i64 0, .int .i64 0, .int .i64 0]), 4, 32) := by kernel_rfl
def zero4 : Array Value := #[.int .i64 0, .int .i64 0, .int .i64 0, .int .i64 0]
theorem make_arcs (m : Nat) (h : m ≤ 1000000) : ∀ w : World, (Instr.makeSlice 72 (.int .i64 (m : Int)) (.int .i64 (m : Int))).run Try.prog w = .ok (.slice (some ⟨w.heap.size, 0, none⟩) m m) (w.alloc (.cells (madeCells zero4 (m * 4)) 71)) := by
  intro w
  obtain ⟨i, hi, hz, hs, hb⟩ := info_parts Try.info71
  have := run_make (P := Try.prog) w 72 71 i _ Try.underlying72 hi hz .i64 .i64 m m (by omega) (Int.le_refl _) (by rw [hb]; omega) (by omega)
  simp only [Int.toNat_natCast, hs] at this
  exact this
theorem arcs_made (w : World) (m : Nat) : (w.alloc (.cells (madeCells zero4 (m * 4)) 71)).rowIs w.heap.size 71 (m * 4) (arcCells (fun _ => 0) (fun _ => 0) (fun _ => 0) (fun _ => 0)) :=
  ⟨_, heap_alloc_new w _, size_madeCells _ _, fun i hi => by
    have hm : i % 4 = 0 ∨ i % 4 = 1 ∨ i % 4 = 2 ∨ i % 4 = 3 := by omega
    unfold arcCells zero4
    rcases hm with h | h | h | h <;> simp [madeCells, hi, h]⟩
/- the residual network while it is built: K edges are laid -/
def bT (N : Net) (K k : Nat) : Int := if k < K then (N.aT k : Nat) else 0
def bR (r : Nat → Int) (K k : Nat) : Int := if k < K ∧ k % 2 = 0 then r (k / 2) else 0
def bB (K k : Nat) : Int := if k < K then (bk k : Nat) else 0
def bX (N : Net) (K k : Nat) : Int := if k < K then N.la (N.aF k) k else 0
def bF (N : Net) (K v : Nat) : Int := N.la v K
def ResK (w : World) (N : Net) (r : Nat → Int) (K gr gA gF : Nat) : Prop := ResB w (2 * N.m) N.n gr gA gF (bT N K) (bR r K) (bB K) (bX N K) (bF N K)
theorem up_eq {f g : Nat → Int} {k : Nat} {x : Int} (h : ∀ j, j ≠ k → f j = g j) (hx : x = g k) : ∀ j, up f k x j = g j := fun j => by
  unfold up
  by_cases e : j = k
  · rw [if_pos e, e]; exact hx
  · rw [if_neg e]; exact h j e
theorem ResK.step {w : World} {N : Net} {r : Nat → Int} {K gr gA gF : Nat} {b : Int}
    (h : ResB w (2 * N.m) N.n gr gA gF (up (bT N K) K (N.aT K : Nat)) (up (bR r K) K (if K % 2 = 0 then r (K / 2) else 0)) (up (bB K) K b) (up (bX N K) K (bF N K (N.aF K))) (up (bF N K) (N.aF K) K)) (hb : b = (bk K : Nat)) :
    ResK w N r (K + 1) gr gA gF := by
  refine h.congr (fun j _ => ?_) (fun j _ => ?_) (fun j _ => ?_) (fun j _ => ?_) (fun j _ => ?_)
  · refine up_eq (fun j hj => ?_) ?_ j
    · unfold bT; by_cases e : j < K
      · rw [if_pos e, if_pos (by omega)]
      · rw [if_neg e, if_neg (by omega)]
    · unfold bT; rw [if_pos (by omega)]
  · refine up_eq (fun j hj => ?_) ?_ j
    · unfold bR; by_cases e : j < K ∧ j % 2 = 0
      · rw [if_pos e, if_pos (by omega)]
      · rw [if_neg e, if_neg (by omega)]
    · unfold bR; by_cases e : K % 2 = 0
      · rw [if_pos e, if_pos (by omega)]
      · rw [if_neg e, if_neg (by omega)]
  · refine up_eq (fun j hj => ?_) ?_ j
    · unfold bB; by_cases e : j < K
      · rw [if_pos e, if_pos (by omega)]
      · rw [if_neg e, if_neg (by omega)]
    · unfold bB; rw [if_pos (by omega), hb]
  · refine up_eq (fun j hj => ?_) ?_ j
    · unfold bX; by_cases e : j < K
      · rw [if_pos e, if_pos (by omega)]
      · rw [if_neg e, if_neg (by omega)]
    · unfold bX bF; rw [if_pos (by omega)]
  · unfold up bF
    show _ = (if N.aF K = j then (K : Int) else N.la j K)
    by_cases e : j = N.aF K
    · rw [if_pos e, if_pos e.symm]
    · rw [if_neg e, if_neg (Ne.symm e)]
/- a residual network: what is left of each arc is R -/
def Rsd (w : World) (N : Net) (gr gA gF : Nat) (R : Nat → Int) : Prop :=
  ResB w (2 * N.m) N.n gr gA gF (fun k => (N.aT k : Nat)) R (fun k => (bk k : Nat)) (fun k => N.la (N.aF k) k) (fun v => N.la v (2 * N.m))
def rest0 (r : Nat → Int) (k : Nat) : Int := if k % 2 = 0 then r (k / 2) else 0
theorem ResK.res {w : World} {N : Net} {r : Nat → Int} {gr gA gF : Nat} (h : ResK w N r (2 * N.m) gr gA gF) : Rsd w N gr gA gF (rest0 r) :=
  ResB.congr h (fun k hk => by unfold bT; rw [if_pos hk]) (fun k hk => by
    unfold bR rest0
    by_cases e : k % 2 = 0
    · rw [if_pos e, if_pos ⟨hk, e⟩]
    · rw [if_neg e, if_neg (fun h => e h.2)]) (fun k hk => by unfold bB; rw [if_pos hk]) (fun k hk => by unfold bX; rw [if_pos hk]) (fun v _ => rfl)
def NewEnd (w : World) (N : Net) (r : Nat → Int) (e : Ending) (w' : World) : Prop :=
  ∃ gr gA gF, e = .returned (.pointer (some ⟨gr, 0, none⟩)) ∧ Rsd w' N gr gA gF (rest0 r) ∧ w.heap.size ≤ gr ∧ w.heap.size ≤ gA ∧ w.heap.size ≤ gF ∧ Below w.heap.size w w'
theorem heap_two (W : World) (o o' : Obj) : ((W.alloc o).alloc o').heap[W.heap.size]? = some o := (Below.heap_alloc _ o' _ (by simp)).trans (heap_alloc_new W o)
theorem m1_i (W : World) (o o' : Obj) : ((W.alloc o).alloc o').drew.heap[W.heap.size + 1]? = some o' := heap_alloc2_new W o o'
theorem m1_ii (W : World) (o o' : Obj) : ((W.alloc o).alloc o').drew.heap[W.heap.size]? = some o := heap_alloc2_old W o o'
theorem m1_iii (W : World) (o : Obj) : (W.alloc o).drew.heap[W.heap.size]? = some o := heap_alloc_new W o
theorem arcs_in (W : World) {m : Nat} {o : Obj} {w5 : World} (hb : Below ((W.alloc o).alloc (.cells (madeCells zero4 (m * 4)) 71)).heap.size ((W.alloc o).alloc (.cells (madeCells zero4 (m * 4)) 71)).drew w5) :
    w5.rowIs (W.heap.size + 1) 71 (m * 4) (arcCells (fun _ => 0) (fun _ => 0) (fun _ => 0) (fun _ => 0)) := by
  have h := row_below (w := ((W.alloc o).alloc (.cells (madeCells zero4 (m * 4)) 71)).drew) (arcs_made (W.alloc o) m) hb
  rw [show (W.alloc o).heap.size = W.heap.size + 1 by simp] at h
  exact h
theorem resK_start {w5 : World} {n m gA g : Nat} {E : Nat → EdgeD} {r : Nat → Int} (ra : w5.rowIs gA 71 (2 * m * 4) (arcCells (fun _ => 0) (fun _ => 0) (fun _ => 0) (fun _ => 0))) (rf : w5.rowIs g 3 n (fun _ => .int .i64 (-1))) (ne : gA ≠ g) :
    ResK (w5.alloc (.cells #[.slice (some ⟨gA, 0, none⟩) (2 * m) (2 * m), .slice (some ⟨g, 0, none⟩) n n] 74)) (netOf n m E) r 0 w5.heap.size gA g :=
  ResB.congr ⟨heap_alloc_new w5 _, ra.alloc _, rf.alloc _, ne, fun e => by have := ra.lt; omega, fun e => by have := rf.lt; omega⟩ (fun _ _ => rfl) (fun _ _ => rfl) (fun _ _ => rfl) (fun _ _ => rfl) (fun _ _ => rfl)
set_option maxRecDepth 100000 in
set_option maxHeartbeats 8000000 in
theorem new_any (n m c : Nat) (A : Option Addr) (E : Nat → EdgeD) (L : Option Addr) (cl : Nat) (r : Nat → Int) (w : World) (h : Edges w A m E) (hv : VNet n m E) (hr : Ints w L m r) :
    Calls Try.prog 46 #[.agg #[.int .i64 n, .slice A m c], .slice L m cl] w (NewEnd w (netOf n m E) r) := by
  have HH := Lib.hid h; clear h
  have HR := Lib.hid hr; clear hr
  have hm := hv.2.2.1
  have hn1 := hv.1
  have hn5 := hv.2.1
  have HV := Lib.hid hv; clear hv
  have n0 := netAt_new w n A m c
  have b0 := below_new w (.cells #[.int .i64 n, .slice A m c] 24)
  have c0 := n0.c0
  have c1 := n0.c1
  have hmk : ∀ w : World, (Instr.makeSlice 72 (.int .i64 (2 * (m : Int))) (.int .i64 (2 * (m : Int)))).run Try.prog w = .ok (.slice (some ⟨w.heap.size, 0, none⟩) (2 * m) (2 * m)) (w.alloc (.cells (madeCells zero4 (2 * m * 4)) 71)) := fun w => by
    have := make_arcs (2 * m) (by omega) w
    rw [show ((2 * m : Nat) : Int) = 2 * (m : Int) by omega] at this
    exact this
  have hw2 : IntKind.i64.wrap (2 * (m : Int)) = 2 * (m : Int) := IntWalk.i64_in _ (by omega)
  go_enter Try.func46, Try.ntmps46
  go_upto_region 1 with fail
  go_cut [5] from 8 to 18 (fun s5 wx => ∃ gr gA gF, s5 = .pointer (some ⟨gr, 0, none⟩) ∧ ResK wx (netOf n m E) r 0 gr gA gF ∧ w.heap.size ≤ gr ∧ w.heap.size + 1 ≤ gA ∧ w.heap.size + 1 ≤ gF ∧ NetAt wx w.heap.size n A m c ∧ Below w.heap.size w wx)
  case first =>
    have k0 := n0.c0
    have k1 := n0.c1
    have hlt := n0.lt
    generalize w.alloc (.cells #[.int .i64 n, .slice A m c] 24) = W at *
    generalize w.heap.size = p at *
    have hss : Hid (∀ w', Below W.heap.size W w' → Below W.heap.size W w' ∧ w'.cell? ⟨p, 0, none⟩ = some (.int .i64 n) ∧ w'.cell? ⟨p, 1, none⟩ = some (.slice A m c)) := fun w' b => ⟨b, (n0.below b).c0, (n0.below b).c1⟩
    go_region_held3 (fun w' => Below W.heap.size W w' ∧ w'.cell? ⟨p, 0, none⟩ = some (.int .i64 n) ∧ w'.cell? ⟨p, 1, none⟩ = some (.slice A m c))
      (first
        | exact hss.out _ (Below.refl _ _).drew
        | exact hss.out _ bc5
        | exact hss.out _ (bc5.alloc bc5.size _)
        | exact hss.out _ ((bc5.alloc bc5.size _).alloc (bc5.alloc bc5.size _).size _)
        | exact hss.out _ (Below.alloc (And.left (by assumption)) (Below.size (And.left (by assumption))) _))
      (first
        | (go_at_call 66; (with_reducible refine (repeat_any n _ _ _ (by omega) (by omega) (by first | exact m1_i _ _ _ | exact m1_ii _ _ _ | exact m1_iii _ _)).mono ?_); rintro e w5 ⟨g, rfl, hrow, hge, hb⟩; have bc5 := below_next (And.left (by assumption)) hb; (first | have ra5 := row_below ((arcs_made W.drew (2 * m)).alloc (.cells #[.int .i64 (-1)] 3)) hb | have ra5 := arcs_in W hb | skip)))
    all_goals
      have bx := And.left (by assumption)
      go_wp2_with fail
      go_meet
    all_goals
      have hs5 := bc5.size
      have hxs := bx.size
      first
        | (have hne : W.heap.size ≠ g := (by have := hge; simp at this; omega); exact ⟨_, _, _, rfl, resK_start ra5 hrow hne, by omega, by omega, by have := hge; simp at this; omega, n0.below (bc5.alloc bc5.size _), below_then b0 (bc5.alloc bc5.size _) (Nat.le_of_lt hlt)⟩)
        | (have hne : W.heap.size + 1 ≠ g := (by have := hge; simp at this; omega); exact ⟨_, _, _, rfl, resK_start ra5 hrow hne, by omega, by omega, by have := hge; simp at this; omega, n0.below (bc5.alloc bc5.size _), below_then b0 (bc5.alloc bc5.size _) (Nat.le_of_lt hlt)⟩)
        | (have ra6 := arcs_made w5 (2 * m); have hrow6 := hrow.alloc (.cells (madeCells zero4 (2 * m * 4)) 71); have hgl := hrow.lt; have hne : w5.heap.size ≠ g := (by omega); have hs6 : (w5.alloc (.cells (madeCells zero4 (2 * m * 4)) 71)).heap.size = w5.heap.size + 1 := (by simp); have hK := resK_start (r := r) (E := E) (n := n) ra6 hrow6 hne; rw [hs6] at hK; have bc6 := bc5.alloc bc5.size (.cells (madeCells zero4 (2 * m * 4)) 71); exact ⟨_, _, _, rfl, hK, by omega, by omega, by have := hge; simp at this; omega, n0.below (bc6.alloc bc6.size _), below_then b0 (bc6.alloc bc6.size _) (Nat.le_of_lt hlt)⟩)
  case rest =>
    obtain ⟨gr, gA, gF, rfl, hK0, l1, l2, l3, hN0, hB0⟩ := hcut
    clear n0 b0 c0 c1 hmk hw2
    have q0 := hN0.c1
    go_wp2_with fail
    clear q0
    go_loopw [6, 7, 22] (fun _ _ i wr => ∃ K : Nat, K ≤ m ∧ i = .int .i64 K ∧ ResK wr (netOf n m E) r (2 * K) gr gA gF ∧ NetAt wr w.heap.size n A m c ∧ Below w.heap.size w wr) (fun _ _ i _ => m - (intOf i).toNat)
    case atStart => exact ⟨0, by omega, rfl, hK0, hN0, hB0⟩
    case round =>
      clear hK0 hN0 hB0
      obtain ⟨K, hK, rfl, hR, hN, hB⟩ := hrel
      by_cases hlt : K < m
      · obtain ⟨b, off, rfl, hbl, hcz⟩ := (HH.out.below hB) (by omega)
        obtain ⟨x0, x1, x2⟩ := hcz K hlt
        obtain ⟨bL, oL, rfl, hbL, hcL⟩ := (HR.out.below hB) (by omega)
        have xL := hcL K hlt
        clear hcz hcL
        have hfr := HV.out.fr hlt
        have htt := HV.out.tt hlt
        have hfn := HV.out.ok.fr K hlt
        have htn := HV.out.ok.tt K hlt
        have ef : (netOf n m E).fr K = (netOf n m E).aF (2 * K) := by unfold Net.aF; rw [if_pos (by omega), show 2 * K / 2 = K by omega]
        have et : (netOf n m E).tt K = (netOf n m E).aT (2 * K) := by unfold Net.aT; rw [if_pos (by omega), show 2 * K / 2 = K by omega]
        rw [hfr, ef] at x0
        rw [htt, et] at x1
        rw [ef] at hfn
        rw [et] at htn
        clear hfr htt ef et
        have hcc := (E K).c
        obtain ⟨ec, hec⟩ : ∃ x, x = (E K).c := ⟨_, rfl⟩
        rw [← hec] at x2
        clear hec hcc
        have e2 : (wr.alloc (.cells #[.int .i64 ((netOf n m E).aF (2 * K) : Nat), .int .i64 ((netOf n m E).aT (2 * K) : Nat), .int .i64 ec] 50)).heap[wr.heap.size]? = some (.cells #[.int .i64 ((netOf n m E).aF (2 * K) : Nat), .int .i64 ((netOf n m E).aT (2 * K) : Nat), .int .i64 ec] 50 (0, 0)) := heap_alloc_new wr _
        have bE := below_new wr (.cells #[.int .i64 ((netOf n m E).aF (2 * K) : Nat), .int .i64 ((netOf n m E).aT (2 * K) : Nat), .int .i64 ec] 50)
        have xL2 := (bE.cell (p := ⟨bL, oL + K, none⟩) hbL).trans xL
        have hR2 := hR.below bE
        have hN2 := hN.below bE
        have B2 := below_next hB bE
        have hpe := lt_of_block e2
        have hpA : wr.heap.size ≠ gA := fun e => by have := hR.arcs.lt; omega
        have hpF : wr.heap.size ≠ gF := fun e => by have := hR.first.lt; omega
        go_upto_region 5 with fail
        generalize wr.alloc (.cells #[.int .i64 ((netOf n m E).aF (2 * K) : Nat), .int .i64 ((netOf n m E).aT (2 * K) : Nat), .int .i64 ec] 50) = W at *
        have y0 := cell_of_row _ _ 0 _ _ _ e2
        have y1 := cell_of_row _ _ 1 _ _ _ e2
        have E2 := Lib.hid e2
        clear e2 bE xL hR hN hB x0 x1 x2
        have hK6 : K ≤ 1000000 := by omega
        have hle : w.heap.size + 1 ≤ W.drew.heap.size := by show _ ≤ W.heap.size; have := hN2.lt; omega
        go_cut [] from 23 to 53 (fun wx => ResK wx (netOf n m E) r (2 * K + 1) gr gA gF ∧ NetAt wx w.heap.size n (some ⟨b, off, none⟩) m c ∧ Below w.heap.size w wx ∧ wx.heap[wr.heap.size]? = some (.cells #[.int .i64 ((netOf n m E).aF (2 * K) : Nat), .int .i64 ((netOf n m E).aT (2 * K) : Nat), .int .i64 ec] 50 (0, 0)))
        case first =>
          have HP := Lib.hid (put_at (w.heap.size + 1) (2 * m) n gr gA gF _ _ _ _ _ (2 * K) ((netOf n m E).aF (2 * K)) (2 * (K : Int)) ((netOf n m E).aT (2 * K) : Nat) (r K) (2 * (K : Int) + 1) 0 _ (ResB.drew hR2) (by omega) (by omega) hfn l2 l3 hle)
          go_still_tail 14, (by kernel_rfl)
          still_call (flip_same (forward_any K _ hK6))
          repeat still_step
          still_call (flip_same (backward_any K _ hK6))
          repeat still_step
          refine wpStill_nil ?_
          change wpList _ _ _ _ _ W.drew
          go_wp2_with fail
          refine HP.out.mono ?_; rintro e w5 ⟨rfl, hR5, b5, a5⟩
          go_wp2_with fail
          go_meet
          case rel =>
            have e : (if (2 * K) % 2 = 0 then r (2 * K / 2) else 0) = r K := by rw [if_pos (by omega), show 2 * K / 2 = K by omega]
            refine ⟨ResK.step (b := 2 * (K : Int) + 1) (by rw [e]; exact hR5) (by unfold bk; rw [if_pos (by omega)]; omega), (b5.block _ (Nat.lt_succ_self _)).trans hN2, B2.drew.trans (b5.mono (Nat.le_succ _)), (a5 _ hpe hpA hpF).trans E2.out⟩
        case rest =>
          obtain ⟨hR3, hN3, hB3, hE3⟩ := hcut
          clear hR2 hN2 B2 y0 y1 E2 hle xL2
          have y0 := cell_of_row _ _ 0 _ _ _ hE3
          have y1 := cell_of_row _ _ 1 _ _ _ hE3
          have hle : w.heap.size + 1 ≤ wc.drew.heap.size := by show _ ≤ wc.heap.size; have := hN3.lt; omega
          have ef : (netOf n m E).aF (2 * K + 1) = (netOf n m E).aT (2 * K) := by unfold Net.aF Net.aT; rw [if_neg (by omega), if_pos (by omega), show (2 * K + 1) / 2 = 2 * K / 2 by omega]
          have et : (netOf n m E).aT (2 * K + 1) = (netOf n m E).aF (2 * K) := by unfold Net.aF Net.aT; rw [if_neg (by omega), if_pos (by omega), show (2 * K + 1) / 2 = 2 * K / 2 by omega]
          have HP := Lib.hid (put_at (w.heap.size + 1) (2 * m) n gr gA gF _ _ _ _ _ (2 * K + 1) ((netOf n m E).aT (2 * K)) (2 * (K : Int) + 1) ((netOf n m E).aF (2 * K) : Nat) 0 (2 * (K : Int)) 0 _ (ResB.drew hR3) (by omega) (by omega) htn l2 l3 hle)
          go_upto_region 6 with fail
          go_still_tail 10, (by kernel_rfl)
          still_call (flip_same (backward_any K _ hK6))
          repeat still_step
          still_call (flip_same (forward_any K _ hK6))
          repeat still_step
          refine wpStill_nil ?_
          change wpList _ _ _ _ _ wc.drew
          go_wp2_with fail
          refine HP.out.mono ?_; rintro e w5 ⟨rfl, hR5, b5, a5⟩
          go_wp2_with fail
          go_roundw
          case rel =>
            have e : (if (2 * K + 1) % 2 = 0 then r ((2 * K + 1) / 2) else 0) = 0 := by rw [if_neg (by omega)]
            have hstep : ResK w5 (netOf n m E) r (2 * K + 1 + 1) gr gA gF := ResK.step (b := 2 * (K : Int)) (by rw [e, ef, et]; exact hR5) (by unfold bk; rw [if_neg (by omega)]; omega)
            exact ⟨K + 1, by omega, by go_num, hstep, (b5.block _ (Nat.lt_succ_self _)).trans hN3, hB3.drew.trans (b5.mono (Nat.le_succ _))⟩
          case measure => simp [intOf]; omega
      · obtain rfl : K = m := by omega
        have hRR := Lib.hid hR.res
        go_wp2_with fail
        go_ret
        exact ⟨gr, gA, gF, rfl, hRR.out, l1, by omega, by omega, hB⟩
end Go.Proofs.Ytjdceafkcakbjaa
