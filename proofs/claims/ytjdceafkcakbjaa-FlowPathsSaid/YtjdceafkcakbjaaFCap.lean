/- The contracts of capacities, surpluses, flowValue and cutCapacity. -/
import Derived.Test.YtjdceafkcakbjaaFNew
namespace Go.Proofs.Ytjdceafkcakbjaa
open Go.RowKit
theorem Row.ints {w : World} {g n : Nat} {F : Nat → Int} (h : w.rowIs g 3 n (ivals F)) : Ints w (some ⟨g, 0, none⟩) n F := fun _ =>
  ⟨g, 0, rfl, h.lt, fun k hk => by rw [Nat.zero_add]; exact h.cell hk⟩
def upto (F : Nat → Int) (K : Nat) : Nat → Int := fun j => if j < K then F j else 0
theorem upto_step (F : Nat → Int) (K : Nat) : ∀ j, up (upto F K) K (F K) j = upto F (K + 1) j := fun j => by
  unfold up upto
  by_cases e : j = K
  · rw [if_pos e, if_pos (by omega), e]
  · rw [if_neg e]
    by_cases h : j < K
    · rw [if_pos h, if_pos (by omega)]
    · rw [if_neg h, if_neg (by omega)]
theorem ivals_set {w : World} {g n : Nat} {F F' : Nat → Int} {k : Nat} {x : Int} (h : w.rowIs g 3 n (ivals F)) (e : ∀ j, up F k x j = F' j) : (w.setCell ⟨g, k, none⟩ (.int .i64 x)).rowIs g 3 n (ivals F') :=
  (h.set k _).congr fun j _ => by
    show (if j = k then Value.int .i64 x else Value.int .i64 (F j)) = Value.int .i64 (F' j)
    rw [← e j]; unfold up
    by_cases c : j = k
    · rw [if_pos c, if_pos c]
    · rw [if_neg c, if_neg c]
def RowEnd (w : World) (n : Nat) (F : Nat → Int) (e : Ending) (w' : World) : Prop :=
  ∃ g, e = .returned (.slice (some ⟨g, 0, none⟩) n n) ∧ w'.rowIs g 3 n (ivals F) ∧ w.heap.size ≤ g ∧ Below w.heap.size w w'
set_option maxHeartbeats 4000000 in
theorem caps_any (N : Int) (A : Option Addr) (m c : Nat) (E : Nat → EdgeD) (w : World) (h : Edges w A m E) (hm : m ≤ 2000) :
    Calls Try.prog 47 #[.agg #[.int .i64 N, .slice A m c]] w (RowEnd w m (fun i => (E i).c)) := by
  have HH := Lib.hid h; clear h
  have n0 := netAt_new w N A m c
  have b0 := below_new w (.cells #[.int .i64 N, .slice A m c] 24)
  have c1 := n0.c1
  have hmk := make_ints m (by omega)
  have hc2 := (n0.alloc (.cells (madeCells #[.int .i64 0] m) 3)).c1
  go_enter Try.func47, Try.ntmps47
  go_wp2_with fail
  have hrow : (((w.alloc (.cells #[.int .i64 N, .slice A m c] 24)).alloc (.cells (madeCells #[.int .i64 0] m) 3))).rowIs (w.heap.size + 1) 3 m (ivals (upto (fun i => (E i).c) 0)) := by
    have := World.rowIs_made (w.alloc (.cells #[.int .i64 N, .slice A m c] 24)) (.int .i64 0) m 3
    rw [show (w.alloc (.cells #[.int .i64 N, .slice A m c] 24)).heap.size = w.heap.size + 1 by simp] at this
    exact this.congr fun j _ => by unfold ivals upto; rw [if_neg (Nat.not_lt_zero _)]
  have b1 := b0.alloc b0.size (.cells (madeCells #[.int .i64 0] m) 3)
  clear hmk c1 hc2 n0 b0
  go_loopw [4, 5, 13] (fun _ _ i wr => ∃ K : Nat, K ≤ m ∧ i = .int .i64 K ∧ wr.rowIs (w.heap.size + 1) 3 m (ivals (upto (fun i => (E i).c) K)) ∧ Below w.heap.size w wr) (fun _ _ i _ => m - (intOf i).toNat)
  case atStart => exact ⟨0, by omega, rfl, hrow, b1⟩
  case round =>
    clear hrow b1
    obtain ⟨K, hK, rfl, hR, hB⟩ := hrel
    by_cases hlt : K < m
    · obtain ⟨b, off, rfl, hbl, hcz⟩ := (HH.out.below hB) (by omega)
      obtain ⟨x0, x1, x2⟩ := hcz K hlt
      clear hcz
      have bE := below_new wr (.cells #[.int .i64 (E K).f, .int .i64 (E K).t, .int .i64 (E K).c] 50)
      have e2 : (wr.alloc (.cells #[.int .i64 (E K).f, .int .i64 (E K).t, .int .i64 (E K).c] 50)).heap[wr.heap.size]? = some (.cells #[.int .i64 (E K).f, .int .i64 (E K).t, .int .i64 (E K).c] 50 (0, 0)) := heap_alloc_new wr _
      have y2 := cell_of_row _ _ 2 _ _ _ e2
      have hR2 := row_below hR bE
      have z0 := hR2.cell hlt
      have z1 := hR2.frozen K
      have HR3 := Lib.hid (ivals_set hR2 (upto_step (fun i => (E i).c) K))
      have B3 := (below_next hB bE).setCell (p := ⟨w.heap.size + 1, K, none⟩) (by show w.heap.size ≤ w.heap.size + 1; omega) (.int .i64 (E K).c)
      have hwrap : IntKind.i64.wrap ((K : Int) + 1) = (K : Int) + 1 := IntWalk.i64_in _ (by omega)
      clear hR hB e2 bE hR2
      generalize (E K).f = ef at *
      generalize (E K).t = et at *
      generalize (E K).c = ec at *
      go_wp2_with fail
      go_roundw
      case rel => exact ⟨K + 1, by omega, by go_num, HR3.out, B3⟩
      case measure => simp [intOf]; omega
    · obtain rfl : K = m := by omega
      go_wp2_with fail
      go_ret
      exact ⟨w.heap.size + 1, rfl, hR.congr (fun j hj => by unfold ivals upto; rw [if_pos hj]), by omega, hB⟩
/- balances of the first K edges -/
def Net.balK (N : Net) (g : Nat → Int) (K v : Nat) : Int := sumTo K fun i => (if N.fr i = v then g i else 0) - (if N.tt i = v then g i else 0)
theorem Net.balK_bound (N : Net) {g : Nat → Int} {K : Nat} (h : ∀ i, i < K → 0 ≤ g i ∧ g i ≤ 1125899906842624) (hK : K ≤ 2000) (v : Nat) : -2251799813685248000 ≤ N.balK g K v ∧ N.balK g K v ≤ 2251799813685248000 := by
  have h1 : N.balK g K v ≤ (K : Int) * 1125899906842624 := sumTo_bound fun i hi => by
    have := h i hi
    show (if N.fr i = v then g i else 0) - (if N.tt i = v then g i else 0) ≤ _
    split <;> split <;> omega
  have h2 : sumTo K (fun _ => 0) - N.balK g K v ≤ (K : Int) * 1125899906842624 := by
    unfold Net.balK
    rw [← sumTo_sub]
    refine sumTo_bound fun i hi => ?_
    have := h i hi
    show 0 - ((if N.fr i = v then g i else 0) - (if N.tt i = v then g i else 0)) ≤ _
    split <;> split <;> omega
  rw [sumTo_zero] at h2
  omega
theorem balK_step (N : Net) (g : Nat → Int) (K : Nat) (hne : N.fr K ≠ N.tt K) : ∀ v, up (up (N.balK g K) (N.fr K) (N.balK g K (N.fr K) + g K)) (N.tt K) (N.balK g K (N.tt K) - g K) v = N.balK g (K + 1) v := fun v => by
  show _ = N.balK g K v + ((if N.fr K = v then g K else 0) - (if N.tt K = v then g K else 0))
  unfold up
  by_cases e1 : v = N.tt K
  · rw [if_pos e1, if_neg (fun h => hne (h.trans e1)), if_pos e1.symm, e1]; omega
  · rw [if_neg e1]
    by_cases e2 : v = N.fr K
    · rw [if_pos e2, if_pos e2.symm, if_neg (fun h => e1 h.symm), e2]; omega
    · rw [if_neg e2, if_neg (fun h => e2 h.symm), if_neg (fun h => e1 h.symm)]; omega
set_option maxRecDepth 100000 in
set_option maxHeartbeats 4000000 in
theorem surpl_any (n m c cl : Nat) (A L : Option Addr) (E : Nat → EdgeD) (g : Nat → Int) (w : World) (h : Edges w A m E) (hv : VNet n m E) (hL : Ints w L m g) (hg : ∀ i, i < m → 0 ≤ g i ∧ g i ≤ 1125899906842624) :
    Calls Try.prog 62 #[.agg #[.int .i64 n, .slice A m c], .slice L m cl] w (RowEnd w n ((netOf n m E).bal g)) := by
  have HH := Lib.hid h; clear h
  have HL := Lib.hid hL; clear hL
  have HG := Lib.hid hg; clear hg
  have hm := hv.2.2.1
  have hn5 := hv.2.1
  have HV := Lib.hid hv; clear hv
  have n0 := netAt_new w n A m c
  have b0 := below_new w (.cells #[.int .i64 n, .slice A m c] 24)
  have c0 := n0.c0
  have hmk := make_ints n (by omega)
  have hc2 := (n0.alloc (.cells (madeCells #[.int .i64 0] n) 3)).c1
  go_enter Try.func62, Try.ntmps62
  go_wp2_with fail
  have hrow : (((w.alloc (.cells #[.int .i64 n, .slice A m c] 24)).alloc (.cells (madeCells #[.int .i64 0] n) 3))).rowIs (w.heap.size + 1) 3 n (ivals ((netOf n m E).balK g 0)) := by
    have := World.rowIs_made (w.alloc (.cells #[.int .i64 n, .slice A m c] 24)) (.int .i64 0) n 3
    rw [show (w.alloc (.cells #[.int .i64 n, .slice A m c] 24)).heap.size = w.heap.size + 1 by simp] at this
    exact this.congr fun j _ => rfl
  have b1 := b0.alloc b0.size (.cells (madeCells #[.int .i64 0] n) 3)
  clear hmk c0 hc2 n0 b0
  go_loopw [6, 7, 14] (fun _ _ i wr => ∃ K : Nat, K ≤ m ∧ i = .int .i64 K ∧ wr.rowIs (w.heap.size + 1) 3 n (ivals ((netOf n m E).balK g K)) ∧ Below w.heap.size w wr) (fun _ _ i _ => m - (intOf i).toNat)
  case atStart => exact ⟨0, by omega, rfl, hrow, b1⟩
  case round =>
    clear hrow b1
    obtain ⟨K, hK, rfl, hR, hB⟩ := hrel
    by_cases hlt : K < m
    · obtain ⟨b, off, rfl, hbl, hcz⟩ := (HH.out.below hB) (by omega)
      obtain ⟨x0, x1, x2⟩ := hcz K hlt
      obtain ⟨bL, oL, rfl, hbL0, hcL⟩ := HL.out (by omega)
      have xL := (hB.cell (p := ⟨bL, oL + K, none⟩) hbL0).trans (hcL K hlt)
      have hbL : bL < wr.heap.size := Nat.lt_of_lt_of_le hbL0 hB.size
      clear hcz hcL
      have hfn := HV.out.ok.fr K hlt
      have htn := HV.out.ok.tt K hlt
      have hne := HV.out.ok.ne K hlt
      rw [HV.out.fr hlt] at x0
      rw [HV.out.tt hlt] at x1
      have hgk := HG.out K hlt
      have hbd := fun v => Net.balK_bound (netOf n m E) (g := g) (K := K) (fun i hi => HG.out i (by omega)) (by omega) v
      have hstep := Lib.hid (balK_step (netOf n m E) g K hne)
      have hb1 := hbd ((netOf n m E).fr K)
      have hb2 := hbd ((netOf n m E).tt K)
      clear hbd
      have bE := below_new wr (.cells #[.int .i64 ((netOf n m E).fr K : Nat), .int .i64 ((netOf n m E).tt K : Nat), .int .i64 (E K).c] 50)
      have e2 : (wr.alloc (.cells #[.int .i64 ((netOf n m E).fr K : Nat), .int .i64 ((netOf n m E).tt K : Nat), .int .i64 (E K).c] 50)).heap[wr.heap.size]? = some (.cells #[.int .i64 ((netOf n m E).fr K : Nat), .int .i64 ((netOf n m E).tt K : Nat), .int .i64 (E K).c] 50 (0, 0)) := heap_alloc_new wr _
      have hR2 := row_below hR bE
      have yL := (bE.cell (p := ⟨bL, oL + K, none⟩) hbL).trans xL
      have B2 := below_next hB bE
      have hel := lt_of_block e2
      have hne2 : wr.heap.size ≠ w.heap.size + 1 := fun e => by have := hR.lt; omega
      replace hne : (netOf n m E).fr K ≠ (netOf n m E).tt K := hne
      replace hfn : (netOf n m E).fr K < n := hfn
      replace htn : (netOf n m E).tt K < n := htn
      generalize (E K).c = ec at *
      generalize hF : (netOf n m E).balK g K = S at *
      generalize (netOf n m E).fr K = f at *
      generalize (netOf n m E).tt K = t at *
      generalize g K = gk at *
      clear hF hR hB
      go_upto_region 5 with fail
      generalize wr.alloc (.cells #[.int .i64 (f : Nat), .int .i64 (t : Nat), .int .i64 ec] 50) = W at *
      have y0 : W.cell? ⟨wr.heap.size, 0, none⟩ = some (.int .i64 (f : Int)) := cell_of_row _ _ 0 _ _ _ e2
      have y1 : W.cell? ⟨wr.heap.size, 1, none⟩ = some (.int .i64 (t : Int)) := cell_of_row _ _ 1 _ _ _ e2
      clear e2 bE x0 x1 x2 xL
      have z0 : W.cell? ⟨w.heap.size + 1, f, none⟩ = some (.int .i64 (S f)) := hR2.cell hfn
      have z1 := hR2.frozen f
      have hw1 : IntKind.i64.wrap (S f + gk) = S f + gk := IntWalk.i64_in _ (by omega)
      have hw2 : IntKind.i64.wrap (S t - gk) = S t - gk := IntWalk.i64_in _ (by omega)
      have hwrap : IntKind.i64.wrap ((K : Int) + 1) = (K : Int) + 1 := IntWalk.i64_in _ (by omega)
      have hR3 : (W.drew.setCell ⟨w.heap.size + 1, f, none⟩ (.int .i64 (S f + gk))).rowIs (w.heap.size + 1) 3 n (ivals (up S f (S f + gk))) := ivals_set (w := W.drew) hR2 (fun _ => rfl)
      have B3 := (B2.drew).setCell (p := ⟨w.heap.size + 1, f, none⟩) (by show w.heap.size ≤ w.heap.size + 1; omega) (.int .i64 (S f + gk))
      have u1 : (W.drew.setCell ⟨w.heap.size + 1, f, none⟩ (.int .i64 (S f + gk))).cell? ⟨wr.heap.size, 1, none⟩ = some (.int .i64 (t : Int)) := (World.cell?_of_block (w := W.drew) (Below.heap_setCell W.drew _ _ _ (by exact hne2))).trans y1
      have uL : (W.drew.setCell ⟨w.heap.size + 1, f, none⟩ (.int .i64 (S f + gk))).cell? ⟨bL, oL + K, none⟩ = some (.int .i64 gk) := (World.cell?_of_block (w := W.drew) (Below.heap_setCell W.drew _ _ _ (by show bL ≠ w.heap.size + 1; omega))).trans yL
      go_still_tail 11, (by kernel_rfl)
      change wpList _ _ _ _ _ W.drew
      have z2 : W.drew.cell? ⟨w.heap.size + 1, f, none⟩ = _ := z0
      have z3 : W.drew.frozen? ⟨w.heap.size + 1, f, none⟩ = false := z1
      generalize W.drew = W1 at *
      go_upto_region 6 with fail
      generalize W1.setCell ⟨w.heap.size + 1, f, none⟩ (.int .i64 (S f + gk)) = W2 at *
      clear z0 z1 z2 z3 y0 y1 yL
      have z0 : W2.cell? ⟨w.heap.size + 1, t, none⟩ = some (.int .i64 (S t)) := by rw [hR3.cell htn]; show some (Value.int .i64 (if t = f then _ else S t)) = _; rw [if_neg (Ne.symm hne)]
      have z1 := hR3.frozen t
      have hR4 : (W2.drew.setCell ⟨w.heap.size + 1, t, none⟩ (.int .i64 (S t - gk))).rowIs (w.heap.size + 1) 3 n (ivals ((netOf n m E).balK g (K + 1))) := ivals_set (w := W2.drew) hR3 hstep.out
      have B4 := (B3.drew).setCell (p := ⟨w.heap.size + 1, t, none⟩) (by show w.heap.size ≤ w.heap.size + 1; omega) (.int .i64 (S t - gk))
      go_still_tail 11, (by kernel_rfl)
      change wpList _ _ _ _ _ W2.drew
      have z2 : W2.drew.cell? ⟨w.heap.size + 1, t, none⟩ = _ := z0
      have z3 : W2.drew.frozen? ⟨w.heap.size + 1, t, none⟩ = false := z1
      generalize W2.drew = W3 at *
      generalize hW4 : W3.setCell ⟨w.heap.size + 1, t, none⟩ (.int .i64 (S t - gk)) = W4 at *
      go_wp2_with fail
      go_roundw
      case rel => exact ⟨K + 1, by omega, by go_num, hR4, B4⟩
      case measure => simp [intOf]; omega
    · obtain rfl : K = m := by omega
      go_wp2_with fail
      go_ret
      exact ⟨w.heap.size + 1, rfl, hR, by omega, hB⟩
theorem value_any (n m c cl s : Nat) (A L : Option Addr) (E : Nat → EdgeD) (g : Nat → Int) (w : World) (h : Edges w A m E) (hv : VNet n m E) (hL : Ints w L m g) (hg : ∀ i, i < m → 0 ≤ g i ∧ g i ≤ 1125899906842624) (hs : s < n) :
    Calls Try.prog 42 #[.agg #[.int .i64 n, .slice A m c], .int .i64 s, .slice L m cl] w fun e w' => e = .returned (.int .i64 ((netOf n m E).bal g s)) ∧ Below w.heap.size w w' := by
  have HH := Lib.hid h; clear h
  have HL := Lib.hid hL; clear hL
  have HG := Lib.hid hg; clear hg
  have HV := Lib.hid hv; clear hv
  have n0 := netAt_new w n A m c
  have b0 := below_new w (.cells #[.int .i64 n, .slice A m c] 24)
  have c0 := n0.c0
  have c1 := n0.c1
  go_enter Try.func42, Try.ntmps42
  go_wp2_with fail
  refine (surpl_any n m c cl A L E g _ (HH.out.below b0) HV.out (HL.out.below b0) HG.out).mono ?_; rintro e w1 ⟨gS, rfl, hR, hge, b1⟩
  have z0 := hR.cell hs
  replace z0 : w1.cell? ⟨gS, s, none⟩ = some (.int .i64 ((netOf n m E).bal g s)) := z0
  go_wp2_with fail
  go_ret
  exact ⟨rfl, below_next b0 b1⟩
/- the capacity of a cut, its first K edges -/
def Net.capK (N : Net) (S : Nat → Bool) (K : Nat) : Int := sumTo K fun i => if S (N.fr i) = true ∧ S (N.tt i) = false then N.cp i else 0
theorem Net.capK_bound (N : Net) (ok : N.Ok) (S : Nat → Bool) {K : Nat} (hK : K ≤ N.m) : 0 ≤ N.capK S K ∧ N.capK S K ≤ 2251799813685248000 := by
  constructor
  · refine sumTo_nonneg fun i hi => ?_
    have := ok.c0 i (by omega)
    show 0 ≤ (if S (N.fr i) = true ∧ S (N.tt i) = false then N.cp i else 0)
    split <;> omega
  · have h1 : N.capK S K ≤ (K : Int) * 1125899906842624 := sumTo_bound fun i hi => by
      have := ok.c1 i (by omega)
      show (if S (N.fr i) = true ∧ S (N.tt i) = false then N.cp i else 0) ≤ _
      split <;> omega
    have := ok.m2
    omega
set_option maxRecDepth 100000 in
set_option maxHeartbeats 4000000 in
theorem capacity_any (n m c : Nat) (A : Option Addr) (E : Nat → EdgeD) (B : Option Addr) (lb cb : Nat) (f : Nat → Nat) (w : World) (h : Edges w A m E) (hv : VNet n m E) (hB : Wds w B lb f) (hf : Vld (n : Int) lb f) :
    Calls Try.prog 43 #[.agg #[.int .i64 n, .slice A m c], .agg #[.int .i64 n, .slice B lb cb]] w fun e w' => e = .returned (.int .i64 ((netOf n m E).capS (bt f))) ∧ Below w.heap.size w w' := by
  have HH := Lib.hid h; clear h
  have hm := hv.2.2.1
  have HV := Lib.hid hv; clear hv
  have HW := Lib.hid hB; clear hB
  have HF := Lib.hid hf; clear hf
  have n0 := (netAt_new w n A m c).alloc (.cells #[.int .i64 n, .slice B lb cb] 28)
  have s0 := setAt_new (w.alloc (.cells #[.int .i64 n, .slice A m c] 24)) n B lb cb
  rw [show (w.alloc (.cells #[.int .i64 n, .slice A m c] 24)).heap.size = w.heap.size + 1 by simp] at s0
  have b0 := (below_new w (.cells #[.int .i64 n, .slice A m c] 24)).alloc (below_new w _).size (.cells #[.int .i64 n, .slice B lb cb] 28)
  have c1 := n0.c1
  go_enter Try.func43, Try.ntmps43
  go_wp2_with fail
  clear c1
  go_loopw [5, 7, 11] (fun x _ i wr => ∃ K : Nat, K ≤ m ∧ i = .int .i64 K ∧ x = .int .i64 ((netOf n m E).capK (bt f) K) ∧ SetAt wr (w.heap.size + 1) n B lb cb ∧ Below w.heap.size w wr) (fun _ _ i _ => m - (intOf i).toNat)
  case atStart => exact ⟨0, by omega, rfl, rfl, s0, b0⟩
  case round =>
    clear n0 s0 b0
    obtain ⟨K, hK, rfl, rfl, hS, hB⟩ := hrel
    by_cases hlt : K < m
    · obtain ⟨b, off, rfl, hbl, hcz⟩ := (HH.out.below hB) (by omega)
      obtain ⟨x0, x1, x2⟩ := hcz K hlt
      clear hcz
      have hfn := HV.out.ok.fr K hlt
      have htn := HV.out.ok.tt K hlt
      rw [HV.out.fr hlt] at x0
      rw [HV.out.tt hlt] at x1
      have hcc : 0 ≤ (E K).c ∧ (E K).c ≤ 1125899906842624 := (HV.out.2.2.2 K hlt).2
      have hbd := Net.capK_bound (netOf n m E) HV.out.ok (bt f) (K := K) (by exact hK)
      have hstep : Hid ((netOf n m E).capK (bt f) (K + 1) = (netOf n m E).capK (bt f) K + (if bt f ((netOf n m E).fr K) = true ∧ bt f ((netOf n m E).tt K) = false then (E K).c else 0)) := rfl
      have bE := below_new wr (.cells #[.int .i64 ((netOf n m E).fr K : Nat), .int .i64 ((netOf n m E).tt K : Nat), .int .i64 (E K).c] 50)
      have e2 : (wr.alloc (.cells #[.int .i64 ((netOf n m E).fr K : Nat), .int .i64 ((netOf n m E).tt K : Nat), .int .i64 (E K).c] 50)).heap[wr.heap.size]? = some (.cells #[.int .i64 ((netOf n m E).fr K : Nat), .int .i64 ((netOf n m E).tt K : Nat), .int .i64 (E K).c] 50 (0, 0)) := heap_alloc_new wr _
      have hS2 := hS.below bE
      have B2 := below_next hB bE
      have hpe := lt_of_block e2
      replace hfn : (netOf n m E).fr K < n := hfn
      replace htn : (netOf n m E).tt K < n := htn
      have hwrap : IntKind.i64.wrap ((K : Int) + 1) = (K : Int) + 1 := IntWalk.i64_in _ (by omega)
      generalize (netOf n m E).capK (bt f) K = S at *
      generalize (netOf n m E).fr K = fr at *
      generalize (netOf n m E).tt K = t at *
      generalize (E K).c = ec at *
      have hw1 : IntKind.i64.wrap (S + ec) = S + ec := IntWalk.i64_in _ (by omega)
      go_upto_region 5 with fail
      generalize wr.alloc (.cells #[.int .i64 (fr : Nat), .int .i64 (t : Nat), .int .i64 ec] 50) = W at *
      have y0 : W.cell? ⟨wr.heap.size, 0, none⟩ = some (.int .i64 (fr : Int)) := cell_of_row _ _ 0 _ _ _ e2
      have c0 := hS2.c0
      have c1 := hS2.c1
      have E2 := Lib.hid e2
      clear hS hB bE x0 x1 x2 e2
      obtain ⟨v1, hv1⟩ : ∃ v1, bt f fr = v1 := ⟨_, rfl⟩
      obtain ⟨v2, hv2⟩ : ∃ v2, bt f t = v2 := ⟨_, rfl⟩
      have H1 : Hid (∀ u, Below w.heap.size w u → Calls Try.prog 41 #[.agg #[.int .i64 n, .slice B lb cb], .int .i64 fr] u fun e w' => e = .returned (.bool v1) ∧ Below u.heap.size u w') := fun u hu => has_in n fr B lb cb f v1 u (HW.out.below hu) HF.out hfn hv1
      have H2 : Hid (∀ u, Below w.heap.size w u → Calls Try.prog 41 #[.agg #[.int .i64 n, .slice B lb cb], .int .i64 t] u fun e w' => e = .returned (.bool v2) ∧ Below u.heap.size u w') := fun u hu => has_in n t B lb cb f v2 u (HW.out.below hu) HF.out htn hv2
      have hst2 : Hid ((netOf n m E).capK (bt f) (K + 1) = S + (if v1 = true ∧ v2 = false then ec else 0)) := by have := hstep.out; rw [hv1, hv2] at this; exact this
      clear hv1 hv2 hstep
      go_wp2_with fail
      refine (H1.out _ B2).mono ?_; rintro e w3 ⟨rfl, b3⟩
      have hS3 := hS2.below b3
      have B3 := below_next B2 b3
      have e3 := (b3.block wr.heap.size hpe).trans E2.out
      have y1 : w3.cell? ⟨wr.heap.size, 1, none⟩ = some (.int .i64 (t : Int)) := cell_of_row _ _ 1 _ _ _ e3
      have y2 : w3.cell? ⟨wr.heap.size, 2, none⟩ = some (.int .i64 ec) := cell_of_row _ _ 2 _ _ _ e3
      clear hS2 B2 b3 y0 c0 c1 H1
      have E3 := Lib.hid e3
      have hp3 := lt_of_block e3
      clear e3
      cases v1 with
      | false =>
        have hz : Hid ((netOf n m E).capK (bt f) (K + 1) = S) := by show _ = _; have := hst2.out; simpa using this
        clear hst2 y1
        go_wp2_with fail
        go_roundw
        case rel => exact ⟨K + 1, by omega, by go_num, by rw [hz.out], hS3, B3⟩
        case measure => simp [intOf]; omega
      | true =>
        have c0 := hS3.c0
        have c1 := hS3.c1
        go_wp2_with fail
        refine (H2.out _ B3).mono ?_; rintro e w4 ⟨rfl, b4⟩
        have hS4 := hS3.below b4
        have B4 := below_next B3 b4
        have e4 := (b4.block wr.heap.size hp3).trans E3.out
        have y4 : w4.cell? ⟨wr.heap.size, 2, none⟩ = some (.int .i64 ec) := cell_of_row _ _ 2 _ _ _ e4
        clear hS3 B3 b4 y1 y2 c0 c1 H2 e4 E3
        cases v2 with
        | false =>
          have hz : Hid ((netOf n m E).capK (bt f) (K + 1) = S + ec) := by show _ = _; have := hst2.out; simpa using this
          clear hst2
          go_wp2_with fail
          go_roundw
          case rel => exact ⟨K + 1, by omega, by go_num, by rw [hz.out], hS4, B4⟩
          case measure => simp [intOf]; omega
        | true =>
          have hz : Hid ((netOf n m E).capK (bt f) (K + 1) = S) := by show _ = _; have := hst2.out; simpa using this
          clear hst2
          go_wp2_with fail
          go_roundw
          case rel => exact ⟨K + 1, by omega, by go_num, by rw [hz.out], hS4, B4⟩
          case measure => simp [intOf]; omega
    · obtain rfl : K = m := by omega
      go_wp2_with fail
      go_ret
      exact ⟨rfl, hB⟩
end Go.Proofs.Ytjdceafkcakbjaa
