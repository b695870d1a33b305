/- The contracts of relation.Order and Acyclic. -/
import Derived.Test.YtakjdihhbndcnaaDoorRCom
namespace Go.Proofs.YtakjdihhbndcnaaDoor
open Go.RowKit
theorem grown_of_below {w w' : World} (h : Below w.heap.size w w') (row : Option Nat) : w.grownBy w' row := ⟨h.os, h.tape, h.output, h.size, fun k hk _ => h.block k hk⟩
theorem grown_trans {a b c : World} {row : Option Nat} (h : a.grownBy b row) (k : b.grownBy c row) : a.grownBy c row :=
  ⟨k.os.trans h.os, k.tape.trans h.tape, k.output.trans h.output, Nat.le_trans h.size k.size, fun i hi hne => (k.block i (Nat.lt_of_lt_of_le hi h.size) hne).trans (h.block i hi hne)⟩
/- block p is a boxed slice -/
def BoxI (w : World) (p g n c : Nat) : Prop := w.heap[p]? = some (.cells #[.slice (some ⟨g, 0, none⟩) n c] 40 (0, 0))
theorem BoxI.c0 {w : World} {p g n c : Nat} (h : BoxI w p g n c) : w.cell? ⟨p, 0, none⟩ = some (.slice (some ⟨g, 0, none⟩) n c) := cell_of_row _ _ 0 _ _ _ h
theorem BoxI.lt {w : World} {p g n c : Nat} (h : BoxI w p g n c) : p < w.heap.size := lt_of_block h
theorem BoxI.below {w w' : World} {p g n c : Nat} (h : BoxI w p g n c) (hb : Below w.heap.size w w') : BoxI w' p g n c := (hb.block p h.lt).trans h
theorem BoxI.grown {w w' : World} {p g n c : Nat} {row : Option Nat} (h : BoxI w p g n c) (hg : w.grownBy w' row) (hne : some p ≠ row) : BoxI w' p g n c := (hg.block p h.lt hne).trans h
def ivals (P : Nat → Int) : Nat → Value := fun k => .int .i64 (P k)
theorem rowL_nodup (T : Nat → Nat → Bool) (n i : Nat) : (rowL T n i).Nodup := List.Pairwise.filter _ List.nodup_range
theorem mem_rowL {T : Nat → Nat → Bool} {n i j : Nat} : j ∈ rowL T n i ↔ j < n ∧ T i j = true := by
  unfold rowL
  rw [List.mem_filter, List.mem_range]
theorem take_fresh {L : List Nat} (h : L.Nodup) {D : Nat} (hD : D < L.length) : L[D] ∉ L.take D := by
  intro hm
  obtain ⟨k, hk⟩ := List.mem_iff_getElem?.1 hm
  obtain ⟨hkl, hke⟩ := List.getElem?_eq_some_iff.1 hk
  rw [List.length_take] at hkl
  rw [List.getElem_take] at hke
  exact List.pairwise_iff_getElem.1 h k D (by omega) hD (by omega) hke
set_option maxHeartbeats 4000000 in
theorem count_any (q p g n c i : Nat) (A : Option Addr) (ca : Nat) (ch : Int) (P : Nat → Int) (R : Nat → RowD) (w : World) (hr : RelAt w q A n ca) (h : Rel w A n R) (hv : VRel n R) (hb : BoxI w p g n c) (hP : w.rowIs g 3 n (ivals P)) (hpg : p ≠ g)
    (hi : i < n) (hch : -1 ≤ ch ∧ ch ≤ 1) (hPb : ∀ k, k < n → -1000 ≤ P k ∧ P k ≤ 1000) (hT : Tab w) :
    Calls Tryd.prog 88 #[.int .i64 i, .int .i64 ch, .pointer (some ⟨q, 0, none⟩), .pointer (some ⟨p, 0, none⟩)] w fun e w' => e = .returned (.tuple #[]) ∧ w'.rowIs g 3 n (ivals fun k => if mat R i k = true then P k + ch else P k) ∧ w.grownBy w' (some g) := by
  have hn := hv.1
  obtain ⟨b, off, rfl, hbl, hcz⟩ := h (by omega)
  obtain ⟨x0, x1, x2⟩ := hcz i hi
  have X2 := Lib.hid x2
  have hrow := members_row n (R i)
  have HRow : Hid (∀ w', Wds w' (R i).A (R i).l (R i).f → Tab w' → Calls Tryd.prog 89 #[.agg #[.int .i64 (R i).N, .slice (R i).A (R i).l (R i).c]] w' (RowOut w' (rowL (mat R) n i))) := fun w' h1 h2 => hrow w' h1 (hv.2 i hi) h2
  have hlr := rowL_len (mat R) n i
  have hLin : Hid (∀ x, x ∈ rowL (mat R) n i → x < n) := fun x hx => (mem_rowL.1 hx).1
  have hLnd := Lib.hid (rowL_nodup (mat R) n i)
  have hfin : Hid (∀ k, k < n → (if (rowL (mat R) n i).contains k then P k + ch else P k) = if mat R i k = true then P k + ch else P k) := fun k hk => by
    by_cases e : mat R i k = true
    · rw [if_pos e, if_pos (by simpa using mem_rowL.2 ⟨hk, e⟩)]
    · rw [if_neg e, if_neg (fun h => e (mem_rowL.1 (by simpa using h)).2)]
  have HPB := Lib.hid hPb
  have c0 := hr.c0
  clear hrow x2 hcz h hv hPb
  generalize rowL (mat R) n i = L at *
  have hgl := hP.lt
  go_enter Tryd.func88, Tryd.ntmps88
  go_wp2_with fail
  refine (HRow.out _ X2.out hT).mono ?_; rintro e w2 ⟨vL, rfl, hownL, b2⟩
  have hb2 := hb.below b2
  have hP2 := row_below hP b2
  have hg2 := grown_of_below b2 (some g)
  clear X2 HRow x0 x1 c0 b2 hP hb
  obtain ⟨AL, cL, rfl, _, _⟩ := own_ints hownL
  go_wp2_with fail
  go_loopw [7, 15] (fun _ i wr => ∃ D : Nat, D ≤ L.length ∧ i = .int .i64 D ∧ wr.rowIs g 3 n (ivals fun k => if (L.take D).contains k then P k + ch else P k) ∧ BoxI wr p g n c ∧ w.grownBy wr (some g) ∧ wr.ownsRow w.heap.size 3 1 (.slice AL L.length cL) L.length (vals L)) (fun _ i _ => L.length - (intOf i).toNat)
  case atStart => exact ⟨0, by omega, rfl, hP2.congr (fun k _ => by simp), hb2, hg2, hownL⟩
  case round =>
    clear hP2 hb2 hg2 hownL
    obtain ⟨D, hD, rfl, hP, hb, hg, hownL⟩ := hrel
    by_cases hlt : D < L.length
    · obtain ⟨AL', cL', heq, hIL, _⟩ := own_ints hownL
      injection heq with e1 _ e2
      subst e1 e2
      obtain ⟨bI, oI, rfl, _, hcI⟩ := hIL (by omega)
      have y := hcI D hlt
      clear hcI hIL
      have hgt : gets L D = ((L[D] : Nat) : Int) := by unfold gets; rw [List.getD_eq_getElem?_getD, List.getElem?_eq_getElem hlt]; rfl
      rw [hgt] at y
      have hkn := hLin.out _ (List.getElem_mem hlt)
      have hfr := take_fresh hLnd.out hlt
      have htk : Hid (∀ k, (L.take (D + 1)).contains k = ((L.take D).contains k || decide (k = L[D]))) := fun k => by
        rw [Bool.eq_iff_iff, Bool.or_eq_true, decide_eq_true_iff, List.contains_iff_mem, List.contains_iff_mem, List.take_succ_eq_append_getElem hlt, List.mem_append, List.mem_singleton]
      have z0 := hP.cell hkn
      have z1 := hP.frozen L[D]
      replace z0 : wr.cell? ⟨g, L[D], none⟩ = some (.int .i64 (P L[D])) := by
        rw [z0]
        show some (Value.int .i64 (if _ then _ else _)) = _
        rw [if_neg (by simpa using hfr)]
      have hPk := HPB.out _ hkn
      have hS := hP.set L[D] (.int .i64 (P L[D] + ch))
      have hS2 : Hid ((wr.setCell ⟨g, L[D], none⟩ (.int .i64 (P L[D] + ch))).rowIs g 3 n (ivals fun k => if (L.take (D + 1)).contains k then P k + ch else P k)) := hS.congr (fun k _ => by
        show (if k = L[D] then _ else ivals _ k) = ivals _ k
        by_cases e : k = L[D]
        · rw [if_pos e]
          show _ = Value.int .i64 (if _ then _ else _)
          rw [if_pos (by rw [htk.out]; simp [e]), e]
        · rw [if_neg e]
          have : (L.take (D + 1)).contains k = (L.take D).contains k := by rw [htk.out]; simp [e]
          show Value.int .i64 (if _ then _ else _) = Value.int .i64 (if _ then _ else _)
          rw [this])
      clear hgt hfr htk hS
      generalize L[D] = k at *
      have c0 := hb.c0
      have hb3 := hb.grown (grown_setCell wr ⟨g, k, none⟩ (.int .i64 (P k + ch))) (by intro e; injection e with e; exact hpg e)
      have hg3 := grown_trans hg (grown_setCell wr ⟨g, k, none⟩ (.int .i64 (P k + ch)))
      have hL3 := ownsRow_setCell_below hownL (a := ⟨g, k, none⟩) hgl (.int .i64 (P k + ch))
      have hs0 : -1000 ≤ P k := hPk.1
      have hs1 : P k ≤ 1000 := hPk.2
      have hs2 : -1 ≤ ch := hch.1
      have hs3 : ch ≤ 1 := hch.2
      clear hb hg hownL hP hPk
      generalize hPP : P k = pk at *
      have HPP := Lib.hid hPP; clear hPP
      go_wp2_with fail
      go_roundw
      case rel => exact ⟨D + 1, by omega, by go_num, hS2.out, hb3, hg3, hL3⟩
      case measure => simp [intOf]; omega
    · obtain rfl : D = L.length := by omega
      have hP3 := hP.congr (g := ivals fun k => if mat R i k = true then P k + ch else P k) (fun k hk => by
        show Value.int .i64 (if _ then _ else _) = Value.int .i64 (if _ then _ else _)
        rw [List.take_length]
        exact congrArg _ (hfin.out k hk))
      go_wp2_with fail
      exact bodyPost_end (v := .tuple #[]) (results_none rfl _ _ _) rfl ⟨rfl, hP3, hg⟩
/- slices.Index: the first 0 -/
theorem index_zero (g n c : Nat) (P : Nat → Int) (J : Nat) (r : Int) (w : World) (hP : w.rowIs g 3 n (ivals P)) (hn : n ≤ 1000000) (hJ : J ≤ n) (hz : ∀ k, k < J → P k ≠ 0) (hr : (r = -1 ∧ J = n) ∨ (r = J ∧ J < n ∧ P J = 0)) :
    Calls Tryd.prog 90 #[.slice (some ⟨g, 0, none⟩) n c, .int .i64 0] w fun e w' => e = .returned (.int .i64 r) ∧ w = w' := by
  have HZ := Lib.hid hz; clear hz
  have HR := Lib.hid hr; clear hr
  go_enter Tryd.func90, Tryd.ntmps90
  go_wp2_with fail
  go_loop [5, 8] (fun x i => ∃ K : Nat, K ≤ J ∧ i = .int .i64 K) (fun _ i => J - (intOf i).toNat)
  case atStart => exact ⟨0, by omega, rfl⟩
  case round =>
    obtain ⟨K, hK, rfl⟩ := hrel
    by_cases hlt : K < n
    · have x0 := hP.cell hlt
      replace x0 : w.cell? ⟨g, K, none⟩ = some (.int .i64 (P K)) := x0
      by_cases hKJ : K < J
      · have hne := HZ.out K hKJ
        have hb : ((0 : Int) == P K) = false := beq_false_of_ne (fun e => hne e.symm)
        have hb2 : (P K == (0 : Int)) = false := beq_false_of_ne hne
        clear hne
        go_wp2_with fail
        go_round
        case rel => exact ⟨K + 1, by omega, by go_num⟩
        case measure => simp [intOf]; omega
      · obtain rfl : K = J := by omega
        rcases HR.out with ⟨_, h2⟩ | ⟨rfl, _, h3⟩
        · omega
        · rw [h3] at x0
          have H3 := Lib.hid h3; clear h3
          go_wp2_with fail
          go_ret
          exact ⟨rfl, rfl⟩
    · rcases HR.out with ⟨rfl, h2⟩ | ⟨_, h2, _⟩
      · have HJ := Lib.hid h2; clear h2
        go_wp2_with fail
        go_ret
        exact ⟨rfl, rfl⟩
      · omega
def OrdEnd (w : World) (n : Nat) (T : Nat → Nat → Bool) (e : Ending) (w' : World) : Prop :=
  (∃ o v, orderOf n T = some o ∧ e = .returned (.tuple #[v, .int .i64 0]) ∧ w'.ownsRow w.heap.size 3 1 v o.length (vals o) ∧ Below w.heap.size w w') ∨
  (orderOf n T = none ∧ e = .returned (.tuple #[.slice none 0 0, .int .i64 10]) ∧ Below w.heap.size w w')
theorem order_err (A : Option Addr) (n c : Nat) (R : Nat → RowD) (w : World) (h : Rel w A n R) (hn : n ≤ 1000000) (hv : ¬ VRel n R) :
    Calls Tryd.prog 64 #[.agg #[.slice A n c]] w fun e w' => e = .returned (.tuple #[.slice none 0 0, .int .i64 1]) ∧ Below w.heap.size w w' := by
  have HH := Lib.hid h; clear h
  have HV := Lib.hid hv; clear hv
  have b0 : Below w.heap.size w (w.alloc (.cells #[.slice A n c] 24)) := (Below.refl _ _).alloc (Nat.le_refl _) _
  have r0 := relAt_new w A n c
  have c0 := r0.c0
  go_enter Tryd.func64, Tryd.ntmps64
  go_wp2_with fail
  refine (rvalid_no A n c R _ (HH.out.below b0) hn HV.out).mono ?_; rintro e w2 ⟨rfl, b2⟩
  go_wp2_with fail
  go_ret2
  exact ⟨rfl, below_next b0 b2⟩
/- how many of the first K numbers lead to k -/
def cntK (T : Nat → Nat → Bool) (K k : Nat) : Int := (((List.range K).filter fun i => T i k).length : Nat)
theorem cntK_succ (T : Nat → Nat → Bool) (K k : Nat) : cntK T (K + 1) k = if T K k = true then cntK T K k + 1 else cntK T K k := by
  unfold cntK
  rw [List.range_succ, List.filter_append, List.length_append]
  by_cases e : T K k = true
  · rw [if_pos e]; simp [e]
  · rw [if_neg e]; simp [e]
theorem cntK_le (T : Nat → Nat → Bool) (K k : Nat) : 0 ≤ cntK T K k ∧ cntK T K k ≤ K := by
  unfold cntK
  have := List.length_filter_le (fun i => T i k) (List.range K)
  rw [List.length_range] at this
  omega
theorem bound1000 {x : Int} {n : Nat} (hn : n ≤ 512) (h : -1 ≤ x ∧ x ≤ n) : -1000 ≤ x ∧ x ≤ 1000 := by omega
def slen : Value → Nat | .slice _ n _ => n | _ => 0
set_option maxRecDepth 100000 in
set_option maxHeartbeats 8000000 in
theorem order_ok (A : Option Addr) (n c : Nat) (R : Nat → RowD) (w : World) (h : Rel w A n R) (hv : VRel n R) (hT : Tab w) :
    Calls Tryd.prog 64 #[.agg #[.slice A n c]] w (OrdEnd w n (mat R)) := by
  have HH := Lib.hid h; clear h
  have hn := hv.1
  have HV := Lib.hid hv; clear hv
  have b0 : Below w.heap.size w (w.alloc (.cells #[.slice A n c] 24)) := (Below.refl _ _).alloc (Nat.le_refl _) _
  have r0 := relAt_new w A n c
  have c0 := r0.c0
  go_enter Tryd.func64, Tryd.ntmps64
  go_wp2_with fail
  refine (rvalid_yes A n c R _ (HH.out.below b0) HV.out).mono ?_; rintro e w2 ⟨rfl, b2⟩
  have r2 := r0.below b2
  have B2 := below_next b0 b2
  clear r0 b0 c0 b2
  have hmk := make_ints n (by omega)
  have c0 := r2.c0
  have hq : w.heap.size < w2.heap.size := r2.lt
  go_wp2_with fail
  clear hmk c0
  have hP0 := World.rowIs_made w2 (.int .i64 0) n 3
  have bI : Below w2.heap.size w2 ((w2.alloc (.cells (madeCells #[.int .i64 0] n) 3)).alloc (.cells #[.slice (some ⟨w2.heap.size, 0, none⟩) n n] 40)) := ((Below.refl _ _).alloc (Nat.le_refl _) _).alloc (by simp) _
  have hb0 : BoxI ((w2.alloc (.cells (madeCells #[.int .i64 0] n) 3)).alloc (.cells #[.slice (some ⟨w2.heap.size, 0, none⟩) n n] 40)) (w2.heap.size + 1) w2.heap.size n n := by
    have := heap_alloc_new (w2.alloc (.cells (madeCells #[.int .i64 0] n) 3)) (.cells #[.slice (some ⟨w2.heap.size, 0, none⟩) n n] 40)
    have e : (w2.alloc (.cells (madeCells #[.int .i64 0] n) 3)).heap.size = w2.heap.size + 1 := by simp
    rw [e] at this; exact this
  have hP1 := (hP0.alloc (.cells #[.slice (some ⟨w2.heap.size, 0, none⟩) n n] 40)).congr (g := ivals (cntK (mat R) 0)) (fun k _ => rfl)
  have hr1 := r2.below bI
  have BI := below_next B2 bI
  clear hP0 r2 B2 bI
  generalize w2.heap.size = g at *
  go_loopw [7, 20] (fun _ i wr => ∃ K : Nat, K ≤ n ∧ i = .int .i64 K ∧ wr.rowIs g 3 n (ivals (cntK (mat R) K)) ∧ BoxI wr (g + 1) g n n ∧ RelAt wr w.heap.size A n c ∧ Below w.heap.size w wr) (fun _ i _ => n - (intOf i).toNat)
  case atStart => exact ⟨0, by omega, rfl, hP1, hb0, hr1, BI⟩
  case round =>
    clear hP1 hb0 hr1 BI
    obtain ⟨K, hK, rfl, hP, hb, hr, hB⟩ := hrel
    by_cases hlt : K < n
    · have hcl := count_any w.heap.size (g + 1) g n n K A c 1 (cntK (mat R) K) R wr hr (HH.out.below hB) HV.out hb hP (by omega) hlt (by decide) (fun k _ => bound1000 hn ⟨by have := cntK_le (mat R) K k; omega, by have := cntK_le (mat R) K k; omega⟩) (hT.below hB)
      have HCL := Lib.hid hcl
      clear hcl
      go_wp2_with fail
      refine HCL.out.mono ?_; rintro e w3 ⟨rfl, hP3, hg3⟩
      have hP4 := hP3.congr (g := ivals (cntK (mat R) (K + 1))) (fun k _ => by show Value.int .i64 _ = Value.int .i64 _; rw [cntK_succ])
      have hb4 := hb.grown hg3 (by intro e; injection e with e; omega)
      have hr4 : RelAt w3 w.heap.size A n c := (hg3.block _ hr.lt (by intro e; injection e with e; omega)).trans hr
      have B4 := hB.grown hg3 hB.size (by intro k e; injection e with e; omega)
      clear hP3 hP hb hr hB hg3
      go_wp2_with fail
      go_roundw
      case rel => exact ⟨K + 1, by omega, by go_num, hP4, hb4, hr4, B4⟩
      case measure => simp [intOf]; omega
    · obtain rfl : K = n := by omega
      have hP2 := hP.congr (g := ivals (predc (mat R) K [])) (fun k _ => by show Value.int .i64 _ = Value.int .i64 _; rw [predc_nil]; rfl)
      obtain ⟨i0, hi0, hz0, hz1, hz2⟩ := info_parts Tryd.info3
      obtain ⟨W1, rfl⟩ : ∃ W1, W1 = wr := ⟨_, rfl⟩
      have hbl := hb.lt
      go_wp2_with (refine wpList_make_own _ rfl _ _ 40 rfl (g + 2) 3 i0 (.int .i64 0) 1 Tryd.underlying40 hi0 hz0 hz1 .i64 .i64 _ K rfl rfl rfl (by rw [hz2]; omega) (by unfold maxLen; omega) (by omega) ?_)
      intro w4 hown4 hg4
      have bG : Below W1.heap.size W1 w4 := (Below.refl _ _).grown hg4 (Nat.le_refl _) (fun k hk => by cases hk)
      have hP4 := row_below hP2 bG
      have hb4 := hb.below bG
      have hr4 := hr.below bG
      have B4 := below_next hB bG
      clear hP2 hP hb hr hB bG hg4
      have HTo : Hid (Topo (mat R) K []) := topo_nil _ _
      have HEq : Hid (topo (mat R) K (K - ([] : List Nat).length) [] = orderOf K (mat R)) := rfl
      go_wp2_with fail
      go_loopw [8, 9] (fun x _ wr => ∃ (o : List Nat) (v : Value), v = x ∧ o.length ≤ K ∧ Hid (Topo (mat R) K o) ∧ Hid (topo (mat R) K (K - o.length) o = orderOf K (mat R)) ∧ wr.ownsRow (g + 2) 3 1 v o.length (vals o) ∧ wr.rowIs g 3 K (ivals (predc (mat R) K o)) ∧ BoxI wr (g + 1) g K K ∧ RelAt wr w.heap.size A K c ∧ Below w.heap.size w wr) (fun x _ _ => K - slen x)
      case atStart => exact ⟨[], _, rfl, by simp, HTo, HEq, by simpa [vals] using hown4, hP4, hb4, hr4, B4⟩
      case round =>
        clear HTo HEq hown4 hP4 hb4 hr4 B4
        obtain ⟨o, v, rfl, hol, HTo, HEq, hown, hP, hb, hr, hB⟩ := hrel
        obtain ⟨Av, cv, rfl, _, _⟩ := own_ints hown
        by_cases hlt2 : o.length < K
        · have c0 := hb.c0
          cases hnx : nextOf (mat R) K o with
          | none =>
            have hall := find_range_none.1 hnx
            have hix := index_zero g K K (predc (mat R) K o) K (-1) wr hP (by omega) (Nat.le_refl _) (fun k hk e => by have := hall k hk; rw [predc_zero.1 e] at this; cases this) (Or.inl ⟨rfl, rfl⟩)
            have HIX := Lib.hid hix
            have HN : Hid (orderOf K (mat R) = none) := by
              have h1 := HEq.out
              obtain ⟨d, hd⟩ : ∃ d, K - o.length = d + 1 := ⟨K - o.length - 1, by omega⟩
              rw [hd] at h1
              unfold topo at h1
              rw [hnx] at h1
              exact h1.symm
            clear hnx hix hall
            go_wp2_with fail
            refine HIX.out.mono ?_; rintro e w5 ⟨rfl, rfl⟩
            go_wp2_with fail
            go_ret2
            exact Or.inr ⟨HN.out, rfl, hB⟩
          | some j =>
            obtain ⟨f1, f2, f3⟩ := find_range_some.1 hnx
            have hix := index_zero g K K (predc (mat R) K o) j j wr hP (by omega) (by omega) (fun k hk e => by have := f3 k hk; rw [predc_zero.1 e] at this; cases this) (Or.inr ⟨rfl, f1, predc_zero.2 f2⟩)
            have HIX := Lib.hid hix
            have hps := predc_step HTo.out hnx
            have HPS := Lib.hid hps
            have HT2 : Hid (Topo (mat R) K (o ++ [j])) := HTo.out.step hnx
            have HE2 : Hid (topo (mat R) K (K - (o ++ [j]).length) (o ++ [j]) = orderOf K (mat R)) := by
              have h1 := HEq.out
              obtain ⟨d, hd⟩ : ∃ d, K - o.length = d + 1 := ⟨K - o.length - 1, by omega⟩
              have hd2 : K - (o ++ [j]).length = d := by rw [List.length_append, List.length_singleton]; omega
              rw [hd] at h1
              unfold topo at h1
              rw [hnx] at h1
              show _ = _
              rw [hd2]; exact h1
            have hj0 : decide ((j : Int) < 0) = false := decide_eq_false (by omega)
            have hbl2 := hb.lt
            clear hnx hix hps f2 f3 HTo HEq
            go_wp2_with fail
            refine HIX.out.mono ?_; rintro e w5 ⟨rfl, rfl⟩
            go_wp2_with (at_builtin; refine append_one rfl (.tmp 37) (.tmp 39) rfl (g + 2) (.slice Av o.length cv) o j j wr rfl hown rfl (by omega) (by omega) rfl ?_)
            intro v' w5 hown5 hg5
            have bA : Below wr.heap.size wr (wr.alloc (.cells #[.int .i64 (j : Int)] 3)) := (Below.refl _ _).alloc (Nat.le_refl _) _
            have hownA := own_below hown bA
            have hnb : ∀ k, k < g + 2 → some k ≠ (Value.slice Av o.length cv).ownBlock := fun k hk e => by have := (hownA.lt k e.symm).1; omega
            have hP5 : w5.rowIs g 3 K (ivals (predc (mat R) K o)) := (row_below hP bA).of_block (hg5.block g (by have := (row_below hP bA).lt; exact this) (hnb g (by omega)))
            have hb5 := (hb.below bA).grown hg5 (hnb (g + 1) (by omega))
            have hr5 := relAt_grown (hr.below bA) hownA (by omega) hg5
            have B5 := grown_below2 (below_next hB bA) hownA (by omega) hg5
            clear c0 hP hb hr hB hown hownA hg5 bA hnb
            have c0 := hb5.c0
            have z0 := hP5.cell f1
            have z1 := hP5.frozen j
            replace z0 : w5.cell? ⟨g, j, none⟩ = some (.int .i64 (predc (mat R) K o j)) := z0
            have hP6 := (hP5.set j (.int .i64 (-1))).congr (g := ivals fun k => if k = j then -1 else predc (mat R) K o k) (fun k _ => by
              show (if k = j then Value.int .i64 (-1) else Value.int .i64 (predc (mat R) K o k)) = Value.int .i64 (if k = j then -1 else predc (mat R) K o k)
              by_cases e : k = j
              · rw [if_pos e, if_pos e]
              · rw [if_neg e, if_neg e])
            have hb6 := hb5.grown (grown_setCell w5 ⟨g, j, none⟩ (.int .i64 (-1))) (by intro e; injection e with e; have : g + 1 = g := e; omega)
            have hr6 := hr5.far (q := ⟨g, j, none⟩) (by show w.heap.size ≠ g; omega) (.int .i64 (-1))
            have B6 := B5.setCell (p := ⟨g, j, none⟩) (by show w.heap.size ≤ g; omega) (.int .i64 (-1))
            have hown6 := ownsRow_setCell_below hown5 (a := ⟨g, j, none⟩) (by show g < g + 2; omega) (.int .i64 (-1))
            have hcl := count_any w.heap.size (g + 1) g K K j A c (-1) (fun k => if k = j then -1 else predc (mat R) K o k) R _ hr6 (HH.out.below B6) HV.out hb6 hP6 (by omega) f1 (by decide) (fun k _ => by
              show -1000 ≤ (if k = j then _ else _) ∧ (if k = j then _ else _) ≤ 1000
              have := predc_le (mat R) K o k
              split <;> omega) (hT.below B6)
            have HCL := Lib.hid hcl
            clear hP5 hb5 hr5 B5 hown5 hcl
            go_wp2_with fail
            refine HCL.out.mono ?_; rintro e w7 ⟨rfl, hP7, hg7⟩
            have hP8 := hP7.congr (g := ivals (predc (mat R) K (o ++ [j]))) (fun k _ => by
              show Value.int .i64 (if _ then (if _ then _ else _) + _ else _) = Value.int .i64 _
              rw [HPS.out k]
              by_cases e : mat R j k = true
              · rw [if_pos e, if_pos e]
              · rw [if_neg e, if_neg e]; simp)
            have hb8 := hb6.grown hg7 (by intro e; injection e with e; omega)
            have hr8 : RelAt w7 w.heap.size A K c := (hg7.block _ hr6.lt (by intro e; injection e with e; omega)).trans hr6
            have B8 := B6.grown hg7 B6.size (by intro k e; injection e with e; omega)
            have hown8 := hown6.kept hg7 (by
              cases hvb : v'.ownBlock with
              | none => exact Or.inl rfl
              | some b => right; intro e; injection e with e; have := (hown6.lt b hvb).1; omega)
            obtain ⟨g9, c9, hv9, _, _⟩ := hown8.form (by simp)
            subst hv9
            clear hP7 hP6 hb6 hr6 B6 hg7 hown6 HPS HIX
            go_wp2_with fail
            go_roundw
            case rel => exact ⟨o ++ [j], _, rfl, by simp; omega, HT2, HE2, by rw [List.length_append, List.length_singleton]; exact hown8, hP8, hb8, hr8, B8⟩
            case measure => simp [slen]; omega
        · have hlK : o.length = K := by omega
          have HO : Hid (orderOf K (mat R) = some o) := by
            have h1 := HEq.out
            rw [hlK, Nat.sub_self] at h1
            exact h1.symm
          clear hlK
          go_wp2_with fail
          go_ret2
          exact Or.inl ⟨o, _, HO.out, rfl, own_mono hown (by omega), hB⟩
theorem acyclic_bad (A : Option Addr) (n c : Nat) (R : Nat → RowD) (w : World) (h : Rel w A n R) (hn : n ≤ 1000000) (hv : ¬ VRel n R) :
    Calls Tryd.prog 48 #[.agg #[.slice A n c]] w fun e w' => e = .returned (.bool false) ∧ Below w.heap.size w w' := by
  have HH := Lib.hid h; clear h
  have HV := Lib.hid hv; clear hv
  have b0 : Below w.heap.size w (w.alloc (.cells #[.slice A n c] 24)) := (Below.refl _ _).alloc (Nat.le_refl _) _
  have c0 := (relAt_new w A n c).c0
  go_enter Tryd.func48, Tryd.ntmps48
  go_wp2_with fail
  refine (order_err A n c R _ (HH.out.below b0) hn HV.out).mono ?_; rintro e w2 ⟨rfl, b2⟩
  go_wp2_with fail
  go_ret
  exact ⟨rfl, below_next b0 b2⟩
theorem acyclic_ok (A : Option Addr) (n c : Nat) (R : Nat → RowD) (w : World) (h : Rel w A n R) (hv : VRel n R) (hT : Tab w) :
    Calls Tryd.prog 48 #[.agg #[.slice A n c]] w fun e w' => e = .returned (.bool (orderOf n (mat R)).isSome) ∧ Below w.heap.size w w' := by
  have HH := Lib.hid h; clear h
  have HV := Lib.hid hv; clear hv
  have b0 : Below w.heap.size w (w.alloc (.cells #[.slice A n c] 24)) := (Below.refl _ _).alloc (Nat.le_refl _) _
  have c0 := (relAt_new w A n c).c0
  go_enter Tryd.func48, Tryd.ntmps48
  go_wp2_with fail
  refine (order_ok A n c R _ (HH.out.below b0) HV.out (hT.below b0)).mono ?_; rintro e w2 he
  rcases he with ⟨o, v, ho, rfl, _, b2⟩ | ⟨ho, rfl, b2⟩
  · have HO := Lib.hid ho; clear ho
    go_wp2_with fail
    go_ret
    exact ⟨by rw [HO.out]; rfl, below_next b0 b2⟩
  · have HO := Lib.hid ho; clear ho
    go_wp2_with fail
    go_ret
    exact ⟨by rw [HO.out]; rfl, below_next b0 b2⟩
end Go.Proofs.YtakjdihhbndcnaaDoor
