/- Lists of pairs and of edges; the contract of closureNet. -/
import Derived.Test.YtjdceafkcakbjaaFCutK
namespace Go.Proofs.Ytjdceafkcakbjaa
open Go.RowKit
/- pairs that came in -/
def Prs (w : World) (A : Option Addr) (m : Nat) (z : Nat → Int × Int) : Prop :=
  0 < m → ∃ b off, A = some ⟨b, off, none⟩ ∧ b < w.heap.size ∧ ∀ k, k < m → w.cell? ⟨b, off + k * 2, none⟩ = some (.int .i64 (z k).1) ∧ w.cell? ⟨b, off + k * 2 + 1, none⟩ = some (.int .i64 (z k).2)
theorem Prs.below {w w' : World} {A : Option Addr} {m : Nat} {z : Nat → Int × Int} (h : Prs w A m z) (hb : Below w.heap.size w w') : Prs w' A m z := fun hm => by
  obtain ⟨b, off, hA, hlt, hc⟩ := h hm
  exact ⟨b, off, hA, Nat.lt_of_lt_of_le hlt hb.size, fun k hk => ⟨(hb.cell (p := ⟨b, off + k * 2, none⟩) hlt).trans (hc k hk).1, (hb.cell (p := ⟨b, off + k * 2 + 1, none⟩) hlt).trans (hc k hk).2⟩⟩
def evals (l : List EdgeD) : List Value := l.flatMap fun e => [.int .i64 e.f, .int .i64 e.t, .int .i64 e.c]
theorem evals_snoc (l : List EdgeD) (e : EdgeD) : evals (l ++ [e]) = evals l ++ [.int .i64 e.f, .int .i64 e.t, .int .i64 e.c] := by
  unfold evals
  rw [List.flatMap_append]; rfl
theorem evals_get {l : List EdgeD} : ∀ {k : Nat} {p : EdgeD}, l[k]? = some p → (evals l)[k * 3]? = some (.int .i64 p.f) ∧ (evals l)[k * 3 + 1]? = some (.int .i64 p.t) ∧ (evals l)[k * 3 + 2]? = some (.int .i64 p.c) := by
  induction l with
  | nil => intro k p h; simp at h
  | cons x l ih =>
    intro k p h
    have hc : evals (x :: l) = .int .i64 x.f :: .int .i64 x.t :: .int .i64 x.c :: evals l := rfl
    match k with
    | 0 =>
      have : x = p := by simpa using h
      subst this
      exact ⟨rfl, rfl, rfl⟩
    | k + 1 =>
      have h' : l[k]? = some p := by simpa using h
      obtain ⟨h1, h2, h3⟩ := ih h'
      rw [hc, show (k + 1) * 3 = k * 3 + 1 + 1 + 1 by omega, List.getElem?_cons_succ, List.getElem?_cons_succ, List.getElem?_cons_succ, List.getElem?_cons_succ, List.getElem?_cons_succ, List.getElem?_cons_succ, List.getElem?_cons_succ, List.getElem?_cons_succ, List.getElem?_cons_succ]
      exact ⟨h1, h2, h3⟩
def eE (l : List EdgeD) : Nat → EdgeD := fun k => l.getD k ⟨0, 0, 0⟩
theorem eE_get {l : List EdgeD} {k : Nat} (hk : k < l.length) : eE l k = l[k] := by unfold eE; rw [List.getD_eq_getElem?_getD, List.getElem?_eq_getElem hk]; rfl
theorem own_edges {w : World} {base : Nat} {v : Value} {l : List EdgeD} (h : w.ownsRow base 50 3 v l.length (evals l)) : ∃ A c, v = .slice A l.length c ∧ Edges w A l.length (eE l) := by
  rcases h.2 with ⟨rfl, hn⟩ | ⟨g, cap, cur, rfl, hb, hg, hnc, hcm, hcs, ht⟩
  · exact ⟨none, 0, by rw [hn], fun h0 => absurd h0 (by omega)⟩
  · refine ⟨_, _, rfl, fun h0 => ⟨g, 0, rfl, lt_of_block hg, fun k hk => ?_⟩⟩
    obtain ⟨h1, h2, h3⟩ := evals_get (List.getElem?_eq_getElem hk)
    rw [eE_get hk, Nat.zero_add]
    exact ⟨(h.cellAt (k * 3) (by omega)).trans h1, (h.cellAt (k * 3 + 1) (by omega)).trans h2, (h.cellAt (k * 3 + 2) (by omega)).trans h3⟩
theorem Try.info50 : (Try.prog.info? 50).map (fun i => (i.zero, i.size, i.bytes)) = some (some (.agg #[.int .i64 0, .int .i64 0, .int .i64 0]), 3, 24) := by kernel_rfl
theorem append_edge {ops : Array Oper} {rest : List Oper} {o : Oper} {a : Act} {Q : Exit → Act → World → Prop} (hgd : o.guard = none) (s x : Operand)
    (ho : o.op = .call { callee := .builtin .append, args := #[s, x], argTypes := #[22, 22] }) (base : Nat) (v : Value) (l : List EdgeD) (f t c : Int) (w : World) (hs : a.eval s = v)
    (hown : w.ownsRow base 50 3 v l.length (evals l)) (B : Nat) (hx : a.eval x = .slice (some ⟨B, 0, none⟩) 1 1) (hB : w.heap[B]? = some (.cells #[.int .i64 f, .int .i64 t, .int .i64 c] 50 (0, 0))) (hl : l.length ≤ 1000000) (hbase : base ≤ w.heap.size)
    (h : ∀ v' w', w'.ownsRow base 50 3 v' (l.length + 1) (evals (l ++ [EdgeD.mk f t c])) → w.grownBy w' v.ownBlock → wpList Try.prog ops Q rest (a.put o.dst v') w') :
    wpList Try.prog ops Q (o :: rest) a w := by
  refine append_one_at hgd s x 22 50 ho 3 24 _ Try.underlying22 Try.info50 rfl (by decide) (by decide) base v l.length (evals l) hs hown B #[.int .i64 f, .int .i64 t, .int .i64 c] hx hB rfl ?_ hl hbase (fun g cap w' h1 h2 _ _ => h _ w' ?_ h2)
  · intro u hu
    simp at hu
    rcases hu with rfl | rfl | rfl <;> rfl
  · rw [evals_snoc]; exact h1
/- the edges of the network of a closure -/
def cW (z : Nat → Int) (s t : Int) : Nat → List EdgeD
  | 0 => []
  | K + 1 => cW z s t K ++ (if 0 < z K then [⟨s, K, z K⟩] else if z K < 0 then [⟨K, t, -z K⟩] else [])
def cN (y : Nat → Int × Int) (L : List EdgeD) : Nat → List EdgeD
  | 0 => L
  | K + 1 => cN y L K ++ (if (y K).1 ≠ (y K).2 then [⟨(y K).1, (y K).2, 1125899906842624⟩] else [])
theorem cW_len (z : Nat → Int) (s t : Int) : ∀ K, (cW z s t K).length ≤ K
  | 0 => Nat.le_refl _
  | K + 1 => by
    have := cW_len z s t K
    unfold cW
    rw [List.length_append]
    split
    · simp; omega
    · split <;> simp <;> omega
theorem cN_len (y : Nat → Int × Int) (L : List EdgeD) : ∀ K, (cN y L K).length ≤ L.length + K
  | 0 => Nat.le_refl _
  | K + 1 => by
    have := cN_len y L K
    unfold cN
    rw [List.length_append]
    split <;> simp <;> omega
theorem netAt_put {w : World} {p : Nat} {N N' : Int} {A A' : Option Addr} {l c l' c' : Nat} (h : NetAt w p N A l c) : NetAt ((w.setCell ⟨p, 0, none⟩ (.int .i64 N')).setCell ⟨p, 1, none⟩ (.slice A' l' c')) p N' A' l' c' := by
  have h0 := heap_setCell_same w p 0 _ _ (.int .i64 N') h
  have h1 := heap_setCell_same _ p 1 _ _ (.slice A' l' c') h0
  show _ = _
  simpa using h1
theorem NetAt.free {w : World} {p : Nat} {N : Int} {A : Option Addr} {l c : Nat} (h : NetAt w p N A l c) (k : Nat) : w.frozen? ⟨p, k, none⟩ = false := frozen_of_row _ _ k _ _ h
set_option maxRecDepth 100000 in
set_option maxHeartbeats 8000000 in
theorem cnet_any (k q c d : Nat) (A B : Option Addr) (z : Nat → Int) (y : Nat → Int × Int) (s t : Int) (w : World) (hA : Ints w A k z) (hB : Prs w B q y) (hk : k ≤ 500) (hq : q ≤ 1000) (hz : ∀ i, i < k → -1073741824 ≤ z i ∧ z i ≤ 1073741824) :
    Calls Try.prog 59 #[.slice A k c, .slice B q d, .int .i64 s, .int .i64 t] w fun e w' => ∃ A' c', e = .returned (.agg #[.int .i64 ((k : Int) + 2), .slice A' (cN y (cW z s t k) q).length c']) ∧ Edges w' A' (cN y (cW z s t k) q).length (eE (cN y (cW z s t k) q)) ∧ Below w.heap.size w w' := by
  have HA := Lib.hid hA; clear hA
  have HB := Lib.hid hB; clear hB
  have HZ := Lib.hid hz; clear hz
  have n0 := netAt_new w 0 none 0 0
  have b0 := below_new w (.cells #[.int .i64 0, .slice none 0 0] 24)
  have hs1 : (w.alloc (.cells #[.int .i64 0, .slice none 0 0] 24)).heap.size = w.heap.size + 1 := by simp
  go_enter Try.func59, Try.ntmps59
  go_wp2_with fail
  generalize hW : w.alloc (.cells #[.int .i64 0, .slice none 0 0] 24) = W at *
  clear hW
  go_loopw [9, 10, 11, 16, 21, 31] (fun x _ _ i _ _ wr => ∃ (K : Nat) (v : Value), K ≤ k ∧ i = .int .i64 K ∧ v = x ∧ wr.ownsRow (w.heap.size + 1) 50 3 v (cW z s t K).length (evals (cW z s t K)) ∧ Below W.heap.size W wr) (fun _ _ _ i _ _ _ => k - (intOf i).toNat)
  case atStart => exact ⟨0, _, by omega, rfl, rfl, World.ownsRow_nil _ _ _ _, Below.refl _ _⟩
  case round =>
    obtain ⟨K, v, hK, rfl, rfl, hown, hBe⟩ := hrel
    by_cases hlt : K < k
    · obtain ⟨b, off, rfl, hbl, hcz⟩ := (HA.out.below (below_next b0 hBe)) (by omega)
      have x0 := hcz K hlt
      clear hcz
      have hzK := HZ.out K hlt
      have hwrap : IntKind.i64.wrap ((K : Int) + 1) = (K : Int) + 1 := IntWalk.i64_in _ (by omega)
      have hneg : IntKind.i64.wrap (-z K) = -z K := IntWalk.i64_in _ (by omega)
      have hlen := cW_len z s t K
      have hsz := hBe.size
      have hstep : Hid (cW z s t (K + 1) = cW z s t K ++ (if 0 < z K then [⟨s, K, z K⟩] else if z K < 0 then [⟨K, t, -z K⟩] else [])) := rfl
      generalize cW z s t K = l at *
      generalize z K = zk at *
      by_cases hpos : 0 < zk
      · have q1 : decide (0 < zk) = true := decide_eq_true hpos
        have hst2 : Hid (cW z s t (K + 1) = l ++ [⟨s, K, zk⟩]) := by have := hstep.out; rw [if_pos hpos] at this; exact this
        have bA := below_new wr (.cells #[.int .i64 s, .int .i64 (K : Int), .int .i64 zk] 50)
        have hownA := own_below hown bA
        have BA := below_next hBe bA
        clear hstep
        go_wp2_with (at_builtin; refine append_edge rfl (.tmp 24) (.tmp 29) rfl (w.heap.size + 1) v l s K zk _ rfl hownA wr.heap.size rfl (heap_alloc_new _ _) (by omega) (by simp; omega) ?_)
        intro v9 w9 hown9 hg9
        have B9 := grown_below3 BA hownA (by omega) BA.size hg9
        clear hown hBe bA hownA BA x0 hg9
        go_wp2_with fail
        go_roundw
        case rel => exact ⟨K + 1, _, by omega, by go_num, rfl, by rw [hst2.out, List.length_append, List.length_singleton]; exact hown9, B9⟩
        case measure => simp [intOf]; omega
      · have q1 : decide (0 < zk) = false := decide_eq_false hpos
        by_cases hng : zk < 0
        · have q2 : decide (zk < 0) = true := decide_eq_true hng
          have hst2 : Hid (cW z s t (K + 1) = l ++ [⟨K, t, -zk⟩]) := by have := hstep.out; rw [if_neg hpos, if_pos hng] at this; exact this
          have bA := below_new wr (.cells #[.int .i64 (K : Int), .int .i64 t, .int .i64 (-zk)] 50)
          have hownA := own_below hown bA
          have BA := below_next hBe bA
          clear hstep
          go_wp2_with (at_builtin; refine append_edge rfl (.tmp 34) (.tmp 40) rfl (w.heap.size + 1) v l K t (-zk) _ rfl hownA wr.heap.size rfl (heap_alloc_new _ _) (by omega) (by simp; omega) ?_)
          intro v9 w9 hown9 hg9
          have B9 := grown_below3 BA hownA (by omega) BA.size hg9
          clear hown hBe bA hownA BA x0 hg9
          go_wp2_with fail
          go_roundw
          case rel => exact ⟨K + 1, _, by omega, by go_num, rfl, by rw [hst2.out, List.length_append, List.length_singleton]; exact hown9, B9⟩
          case measure => simp [intOf]; omega
        · have q2 : decide (zk < 0) = false := decide_eq_false hng
          have hst2 : Hid (cW z s t (K + 1) = l) := by have := hstep.out; rw [if_neg hpos, if_neg hng, List.append_nil] at this; exact this
          clear hstep
          go_wp2_with fail
          go_roundw
          case rel => exact ⟨K + 1, v, by omega, by go_num, rfl, by rw [hst2.out]; exact hown, hBe⟩
          case measure => simp [intOf]; omega
    · obtain rfl : K = k := by omega
      have hlen0 := cW_len z s t K
      obtain ⟨L, hL⟩ : ∃ L, L = cW z s t K := ⟨_, rfl⟩
      rw [← hL] at hown hlen0
      have HL := Lib.hid hL
      clear hL
      obtain ⟨W2, hW2⟩ : ∃ W2, W2 = wr := ⟨_, rfl⟩
      go_wp2_with fail
      go_loopw [9, 13, 45] (fun x _ i wr => ∃ (D : Nat) (v : Value), D ≤ q ∧ i = .int .i64 D ∧ v = x ∧ wr.ownsRow (w.heap.size + 1) 50 3 v (cN y L D).length (evals (cN y L D)) ∧ Below W.heap.size W wr) (fun _ _ i _ => q - (intOf i).toNat)
      case atStart => exact ⟨0, _, by omega, rfl, rfl, hown, hBe⟩
      case round =>
        clear hown hBe hW2
        obtain ⟨D, v, hD, rfl, rfl, hown, hBe⟩ := hrel
        have hsz := hBe.size
        have hlen := cN_len y L D
        by_cases hlt2 : D < q
        · obtain ⟨b, off, rfl, hbl, hcz⟩ := (HB.out.below (below_next b0 hBe)) (by omega)
          obtain ⟨x0, x1⟩ := hcz D hlt2
          clear hcz
          have hwrap : IntKind.i64.wrap ((D : Int) + 1) = (D : Int) + 1 := IntWalk.i64_in _ (by omega)
          have hstep : Hid (cN y L (D + 1) = cN y L D ++ (if (y D).1 ≠ (y D).2 then [⟨(y D).1, (y D).2, 1125899906842624⟩] else [])) := rfl
          generalize cN y L D = l at *
          generalize (y D).1 = y1 at *
          generalize (y D).2 = y2 at *
          have bP := below_new wr (.cells #[.int .i64 y1, .int .i64 y2] 56)
          have eP : (wr.alloc (.cells #[.int .i64 y1, .int .i64 y2] 56)).heap[wr.heap.size]? = some (.cells #[.int .i64 y1, .int .i64 y2] 56 (0, 0)) := heap_alloc_new wr _
          have u0 := cell_of_row _ _ 0 _ _ _ eP
          have u1 := cell_of_row _ _ 1 _ _ _ eP
          have hownP := own_below hown bP
          have BP := below_next hBe bP
          by_cases hne : y1 = y2
          · have q1 : (y1 != y2) = false := by rw [hne]; simp
            have hst2 : Hid (cN y L (D + 1) = l) := by have := hstep.out; rw [if_neg (fun h => h hne), List.append_nil] at this; exact this
            clear hstep hne hown hBe
            go_wp2_with fail
            go_roundw
            case rel => exact ⟨D + 1, v, by omega, by go_num, rfl, by rw [hst2.out]; exact hownP, BP⟩
            case measure => simp [intOf]; omega
          · have q1 : (y1 != y2) = true := bne_iff_ne.2 hne
            have hst2 : Hid (cN y L (D + 1) = l ++ [⟨y1, y2, 1125899906842624⟩]) := by have := hstep.out; rw [if_pos hne] at this; exact this
            have bA := below_new (wr.alloc (.cells #[.int .i64 y1, .int .i64 y2] 56)) (.cells #[.int .i64 y1, .int .i64 y2, .int .i64 1125899906842624] 50)
            have hownA := own_below hownP bA
            have BA := below_next BP bA
            have hBk := Lib.hid (heap_alloc2_new wr (.cells #[.int .i64 y1, .int .i64 y2] 56) (.cells #[.int .i64 y1, .int .i64 y2, .int .i64 1125899906842624] 50))
            clear hstep hne hown hBe
            go_wp2_with (at_builtin; refine append_edge rfl (.tmp 54) (.tmp 60) rfl (w.heap.size + 1) v l y1 y2 1125899906842624 _ rfl hownA (wr.heap.size + 1) rfl hBk.out (by omega) (by simp; omega) ?_)
            intro v9 w9 hown9 hg9
            have B9 := grown_below3 BA hownA (by omega) BA.size hg9
            clear hownP BP bA hownA BA x0 x1 hg9 eP u0 u1
            go_wp2_with fail
            go_roundw
            case rel => exact ⟨D + 1, _, by omega, by go_num, rfl, by rw [hst2.out, List.length_append, List.length_singleton]; exact hown9, B9⟩
            case measure => simp [intOf]; omega
        · obtain rfl : D = q := by omega
          obtain ⟨l, hl⟩ : ∃ l, l = cN y L D := ⟨_, rfl⟩
          rw [← hl] at hown hlen
          have HLe : Hid (cN y (cW z s t K) D = l) := by show _ = _; rw [hl, HL.out]
          clear hl
          obtain ⟨A', c', rfl, hE⟩ := own_edges hown
          have n9 := n0.below hBe
          have c0 := n9.c0
          have c1 := n9.c1
          have f0 := n9.free 0
          have f1 := n9.free 1
          have hw2 : IntKind.i64.wrap ((K : Int) + 2) = (K : Int) + 2 := IntWalk.i64_in _ (by omega)
          have n10 := netAt_put (N' := (K : Int) + 2) (A' := A') (l' := l.length) (c' := c') n9
          have k0 := n10.c0
          have k1 := n10.c1
          have B9 := below_next b0 hBe
          go_wp2_with fail
          refine bodyPost_ret (v := .agg #[.int .i64 ((K : Int) + 2), .slice A' l.length c']) (by simp [results, Try.results59, go_sem, k0, k1]) rfl ?_
          rw [HLe.out]
          refine ⟨A', c', rfl, ?_, (B9.setCell (by exact Nat.le_refl _) _).setCell (by exact Nat.le_refl _) _⟩
          intro hl0
          obtain ⟨b, off, hA', hbl, hcz⟩ := hE hl0
          have hbw : b ≠ w.heap.size := fun e => by
            have := hown.lt b (by rw [hA']; rfl)
            omega
          have hcell : ∀ o, (((wr.setCell ⟨w.heap.size, 0, none⟩ (.int .i64 ((K : Int) + 2))).setCell ⟨w.heap.size, 1, none⟩ (.slice A' l.length c'))).cell? ⟨b, o, none⟩ = wr.cell? ⟨b, o, none⟩ := fun o =>
            (World.cell?_of_block (Below.heap_setCell _ _ _ _ (by exact hbw))).trans (World.cell?_of_block (Below.heap_setCell _ _ _ _ (by exact hbw)))
          exact ⟨b, off, hA', by simpa [World.setCell] using hbl, fun j hj => ⟨(hcell _).trans (hcz j hj).1, (hcell _).trans (hcz j hj).2.1, (hcell _).trans (hcz j hj).2.2⟩⟩
end Go.Proofs.Ytjdceafkcakbjaa
