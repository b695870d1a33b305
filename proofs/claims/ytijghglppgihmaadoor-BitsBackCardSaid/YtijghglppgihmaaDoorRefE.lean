/- The contracts of the reference on sets: With, Without, Union. -/
import Derived.Test.YtijghglppgihmaaDoorRefD
import Derived.Deep.RegionHeld3
namespace Go.Proofs.YtijghglppgihmaaDoor
open Go.RowKit
/- append in a region that draws its order: one number -/
theorem step_append_nat {ops : Array Oper} {o : Oper} {a : Act} {K : Act → World → Prop} {Q : Exit → Act → World → Prop} {E : Prop} (hgd : o.guard = none) (s x : Operand)
    (ho : o.op = .call { callee := .builtin .append, args := #[s, x], argTypes := #[25, 25] }) (base : Nat) (v : Value) (l : List Nat) (J : Nat) (w : World) (hs : a.eval s = v)
    (hown : w.ownsRow base 3 1 v l.length (vals l)) (ad : Addr) (hx : a.eval x = .slice (some ad) 1 1) (hc : w.cell? (ad.add 0) = some (.int .i64 (J : Int))) (hl : l.length ≤ 1000000) (hbase : base ≤ w.heap.size)
    (h : ∀ v' w', w'.ownsRow base 3 1 v' (l ++ [J]).length (vals (l ++ [J])) → w.grownBy w' v.ownBlock → K (a.put o.dst v') w') :
    if Region.wanted o (yielded ops a.tmps) = true then Oper.wp Tryd.prog o a w K Q else E := by
  obtain ⟨i0, hi0, hz0, hz1, hz2⟩ := info_parts Tryd.info3
  have hw : Region.wanted o (yielded ops a.tmps) = true := by simp [Region.wanted, hgd]
  rw [if_pos hw]
  refine wp_append_own w s x 25 ho base 3 i0 (.int .i64 0) 1 8 Tryd.underlying25 hi0 hz0 hz1 hz2 rfl (by decide) v l.length (vals l) hs hown ad 1 1 [.int .i64 (J : Int)] hx rfl
    ?_ (by intro u hu; rw [List.mem_singleton.1 hu]; rfl) (by unfold maxLen; omega) (by omega) hbase (fun v' w' h1 h2 _ => h v' w' ?_ h2)
  · intro j u hu
    match j with
    | 0 =>
      have hu' : Value.int .i64 (J : Int) = u := by simpa using hu
      subst hu'
      exact hc
    | j + 1 => simp at hu
  · rw [vals_snoc, List.length_append]; exact h1
/- append in a region that draws its order: a slice of the call's own -/
theorem step_append_row {ops : Array Oper} {o : Oper} {a : Act} {K : Act → World → Prop} {Q : Exit → Act → World → Prop} {E : Prop} (hgd : o.guard = none) (s x : Operand)
    (ho : o.op = .call { callee := .builtin .append, args := #[s, x], argTypes := #[25, 25] }) (base base' : Nat) (v u : Value) (l m : List Nat) (w : World) (hs : a.eval s = v)
    (hown : w.ownsRow base 3 1 v l.length (vals l)) (hx : a.eval x = u) (hu : w.ownsRow base' 3 1 u m.length (vals m)) (hl : l.length + m.length ≤ 1000000) (hbase : base ≤ w.heap.size)
    (h : ∀ v' w', w'.ownsRow base 3 1 v' (l ++ m).length (vals (l ++ m)) → w.grownBy w' v.ownBlock → K (a.put o.dst v') w') :
    if Region.wanted o (yielded ops a.tmps) = true then Oper.wp Tryd.prog o a w K Q else E := by
  obtain ⟨i0, hi0, hz0, hz1, hz2⟩ := info_parts Tryd.info3
  have hw : Region.wanted o (yielded ops a.tmps) = true := by simp [Region.wanted, hgd]
  rw [if_pos hw]
  have hva : vals (l ++ m) = vals l ++ vals m := by simp [vals]
  rcases hu.2 with ⟨rfl, hm⟩ | ⟨g, cap, cur, rfl, hb, hg, hnc, hcm, hcs, ht⟩
  · have hm0 : m = [] := List.eq_nil_of_length_eq_zero hm
    subst hm0
    have hrun := run_append_owned_none (P := Tryd.prog) (w := w) base 25 o.type 3 i0 1 Tryd.underlying25 hi0 v l.length (vals l) hown
    unfold Oper.wp
    simp [execOp, ho, resolve, invoke, builtin, hs, hx, hrun, Result.andThen]
    exact h _ _ (by simpa using hown) (World.grownBy.refl w _)
  · refine wp_append_own w s x 25 ho base 3 i0 (.int .i64 0) 1 8 Tryd.underlying25 hi0 hz0 hz1 hz2 rfl (by decide) v l.length (vals l) hs hown ⟨g, 0, none⟩ m.length cap (vals m) hx (by rw [vals_len]; omega)
      (hu.cells (g := g) rfl) (vals_one m) (by unfold maxLen; omega) (by omega) hbase (fun v' w' h1 h2 _ => h v' w' ?_ h2)
    rw [hva, List.length_append]; exact h1
/- the cell of the result, whatever it holds -/
def Res (w : World) (r : Nat) : Prop := ∃ x y, w.heap[r]? = some (.cells #[x, y] 24 (0, 0))
def RC (w : World) (r k : Nat) : Value := (w.cell? ⟨r, k, none⟩).getD undef
theorem Res.cells {w : World} {r : Nat} (h : Res w r) : w.cell? ⟨r, 0, none⟩ = some (RC w r 0) ∧ w.cell? ⟨r, 1, none⟩ = some (RC w r 1) ∧ w.frozen? ⟨r, 0, none⟩ = false ∧ w.frozen? ⟨r, 1, none⟩ = false := by
  obtain ⟨x, y, hb⟩ := h
  have h0 : w.cell? ⟨r, 0, none⟩ = some x := cell_of_row _ _ 0 _ _ _ hb
  have h1 : w.cell? ⟨r, 1, none⟩ = some y := cell_of_row _ _ 1 _ _ _ hb
  refine ⟨by unfold RC; rw [h0]; rfl, by unfold RC; rw [h1]; rfl, by simp [World.frozen?, hb], by simp [World.frozen?, hb]⟩
theorem Res.lt {w : World} {r : Nat} (h : Res w r) : r < w.heap.size := by obtain ⟨x, y, hb⟩ := h; exact lt_of_block hb
theorem Res.set0 {w : World} {r : Nat} (h : Res w r) (u : Value) : Res (w.setCell ⟨r, 0, none⟩ u) r := by
  obtain ⟨x, y, hb⟩ := h
  exact ⟨u, y, by simp [World.setCell, Array.getElem?_modify, hb]⟩
theorem Res.set1 {w : World} {r : Nat} (h : Res w r) (u : Value) : Res (w.setCell ⟨r, 1, none⟩ u) r := by
  obtain ⟨x, y, hb⟩ := h
  exact ⟨x, u, by simp [World.setCell, Array.getElem?_modify, hb]⟩
theorem Res.stored {w : World} {r : Nat} {x y : Value} (h : Res ((w.setCell ⟨r, 0, none⟩ x).setCell ⟨r, 1, none⟩ y) r) :
    ((w.setCell ⟨r, 0, none⟩ x).setCell ⟨r, 1, none⟩ y).cell? ⟨r, 0, none⟩ = some x ∧ ((w.setCell ⟨r, 0, none⟩ x).setCell ⟨r, 1, none⟩ y).cell? ⟨r, 1, none⟩ = some y := by
  obtain ⟨a, b, hb⟩ := h
  rw [cell_of_row _ _ 0 _ _ _ hb, cell_of_row _ _ 1 _ _ _ hb]
  simp only [World.setCell, Array.getElem?_modify, if_true] at hb
  rcases hw : w.heap[r]? with _ | o
  · rw [hw] at hb; simp at hb
  · rw [hw] at hb
    cases o <;> simp at hb
    rename_i cs t fr
    obtain ⟨hc, _⟩ := hb
    have h0 : (((cs.setIfInBounds 0 x).setIfInBounds 1 y)[0]?) = some a := by rw [hc]; rfl
    have h1 : (((cs.setIfInBounds 0 x).setIfInBounds 1 y)[1]?) = some b := by rw [hc]; rfl
    have hs : cs.size = 2 := by have := congrArg Array.size hc; simpa using this
    rw [Array.getElem?_setIfInBounds_ne (by decide), Array.getElem?_setIfInBounds_self_of_lt (by omega)] at h0
    rw [Array.getElem?_setIfInBounds_self_of_lt (by simp; omega)] at h1
    exact ⟨by simpa using h0.symm, by simpa using h1.symm⟩
/- one boxed set, and the cell of the result -/
structure OneR (w wr : World) (N : Int) (A : Option Addr) (la ca : Nat) : Prop where
  s : SetAt wr w.heap.size N A la ca
  r : Res wr (w.heap.size + 1)
  b : Below w.heap.size w wr
section
variable {w wr w1 w2 : World} {N : Int} {A : Option Addr} {la ca : Nat}
theorem oneR_new (w : World) (N : Int) (A : Option Addr) (la ca : Nat) : OneR w ((w.alloc (.cells #[.int .i64 N, .slice A la ca] 24)).alloc (.cells #[.int .i64 0, .slice none 0 0] 24)) N A la ca := by
  have h := two_new w N 0 A none la ca 0 0
  exact ⟨h.s, ⟨_, _, h.t⟩, h.b⟩
theorem OneR.full (h : OneR w wr N A la ca) : OneR w wr N A la ca ∧ wr.cell? ⟨w.heap.size, 0, none⟩ = some (.int .i64 N) ∧ wr.cell? ⟨w.heap.size, 1, none⟩ = some (.slice A la ca) ∧ wr.cell? ⟨w.heap.size + 1, 0, none⟩ = some (RC wr (w.heap.size + 1) 0) ∧ wr.cell? ⟨w.heap.size + 1, 1, none⟩ = some (RC wr (w.heap.size + 1) 1) ∧ wr.frozen? ⟨w.heap.size + 1, 0, none⟩ = false ∧ wr.frozen? ⟨w.heap.size + 1, 1, none⟩ = false := ⟨h, h.s.c0, h.s.c1, h.r.cells⟩
theorem OneR.drew (h : OneR w wr N A la ca) : OneR w wr.drew N A la ca := ⟨h.s, h.r, h.b.drew⟩
theorem OneR.next (h : OneR w wr N A la ca) (k : Below wr.heap.size wr w2) : OneR w w2 N A la ca :=
  ⟨h.s.below k, by obtain ⟨x, y, hb⟩ := h.r; exact ⟨x, y, (k.block _ h.r.lt).trans hb⟩, below_next h.b k⟩
theorem OneR.alloc (h : OneR w wr N A la ca) (o : Obj) : OneR w (wr.alloc o) N A la ca := h.next ((Below.refl _ _).alloc (Nat.le_refl _) o)
theorem OneR.grown {base : Nat} {e : TypeId} {size : Nat} {v : Value} {n : Nat} {xs : List Value} (h : OneR w wr N A la ca) (hown : wr.ownsRow base e size v n xs) (hb : w.heap.size + 2 ≤ base) (hg : wr.grownBy w1 v.ownBlock) : OneR w w1 N A la ca :=
  ⟨(hg.block _ h.s.lt (fun e => by have := (hown.lt _ e.symm).1; omega)).trans h.s, by
    obtain ⟨x, y, hx⟩ := h.r
    exact ⟨x, y, (hg.block _ h.r.lt (fun e => by have := (hown.lt _ e.symm).1; omega)).trans hx⟩, h.b.grown hg (by have := h.r.lt; omega) (fun k hk => by have := (hown.lt k hk).1; omega)⟩
theorem OneR.stored (h : OneR w wr N A la ca) (x y : Value) : OneR w ((wr.setCell ⟨w.heap.size + 1, 0, none⟩ x).setCell ⟨w.heap.size + 1, 1, none⟩ y) N A la ca :=
  ⟨(h.s.far (by show w.heap.size ≠ w.heap.size + 1; omega) _).far (by show w.heap.size ≠ w.heap.size + 1; omega) _, (h.r.set0 _).set1 _, (h.b.setCell (by show w.heap.size ≤ w.heap.size + 1; omega) _).setCell (by show w.heap.size ≤ w.heap.size + 1; omega) _⟩
end
theorem cell_new (w : World) (v : Value) : (w.alloc (.cells #[v] 3)).cell? ((⟨w.heap.size, 0, none⟩ : Addr).add 0) = some v := cell_of_row _ _ 0 _ _ _ (heap_alloc_new w _)
theorem cell_was {w w2 : World} {v : Value} {n : Nat} (b : Below (w.alloc (.cells #[v] 3)).drew.heap.size (w.alloc (.cells #[v] 3)).drew w2) (hn : n = w.heap.size) : w2.cell? ((⟨n, 0, none⟩ : Addr).add 0) = some v := by
  subst hn
  exact (b.cell (p := (⟨w.heap.size, 0, none⟩ : Addr).add 0) (by simp [Addr.add])).trans (show (w.alloc (.cells #[v] 3)).cell? _ = _ from cell_new w v)
set_option maxHeartbeats 4000000 in
theorem refWith_any (N i : Nat) (A : Option Addr) (la ca : Nat) (f : Nat → Nat) (w : World) (ha : Wds w A la f) (hN : N ≤ 512) (hla : la = (N + 63) / 64) (hi : i < N) :
    Calls Tryd.prog 28 #[.agg #[.int .i64 N, .slice A la ca], .int .i64 i] w (SetNew w N ((N + 63) / 64) (ofl (mem f N ++ [i]))) := by
  have HA := Lib.hid ha; clear ha
  have hN64 : N ≤ 64 * la := by omega
  have hl9 : la ≤ 9 := by omega
  have hmm : ∀ j, j ∈ mem f N ++ [i] → j < N := by
    intro j hj
    rcases List.mem_append.1 hj with h | h
    · exact (mem_in.1 h).1
    · rw [List.mem_singleton.1 h]; exact hi
  have HM := Lib.hid hmm; clear hmm hla
  have hml := mem_len_le f N
  go_enter Tryd.func28, Tryd.ntmps28
  go_wp2_with fail
  have h0 := oneR_new w N A la ca
  go_region_held3 (fun w' => OneR w w' N A la ca ∧ w'.cell? ⟨w.heap.size, 0, none⟩ = some (.int .i64 N) ∧ w'.cell? ⟨w.heap.size, 1, none⟩ = some (.slice A la ca) ∧ w'.cell? ⟨w.heap.size + 1, 0, none⟩ = some (RC w' (w.heap.size + 1) 0) ∧ w'.cell? ⟨w.heap.size + 1, 1, none⟩ = some (RC w' (w.heap.size + 1) 1) ∧ w'.frozen? ⟨w.heap.size + 1, 0, none⟩ = false ∧ w'.frozen? ⟨w.heap.size + 1, 1, none⟩ = false)
    (first
      | exact h0.drew.full
      | exact (OneR.alloc (And.left (by assumption)) _).full
      | exact (OneR.next (And.left (by assumption)) (by assumption)).full
      | exact (OneR.grown (And.left (by assumption)) (hownM.alloc _) (by omega) hg).full
      | exact (OneR.grown (And.left (by assumption)) hownM (by omega) hg).full
      | exact (OneR.stored (And.left (by assumption)) _ _).full)
    (first
      | (go_at_call 23; refine (refMembers_any N A la ca f _ (HA.out.below (OneR.b (And.left (by assumption)))) hN64 hl9).mono ?_; rintro e w2 ⟨v, rfl, hown1, b2⟩
         have hownM := own_mono (base' := w.heap.size + 2) hown1 (Res.lt (OneR.r (And.left (by assumption)))))
      | (refine step_append_nat (by rfl) (.tmp 8) (.tmp 10) (by rfl) (w.heap.size + 2) v (mem f N) i _ (by rfl) (by first | exact hownM | exact hownM.alloc _) ⟨_, 0, none⟩ (by rfl) (by first | exact cell_new _ _ | exact cell_was b2 (by simp)) (by omega) (Res.lt (OneR.r (And.left (by assumption)))) ?_; intro v2 w3 hownG hg)
      | (go_at_call 19; refine (refOf_own N v2 (mem f N ++ [i]) _ _ hN hownG (by simp; omega) HM.out).mono ?_; rintro e w4 ⟨g, rfl, hg4, hrow, b4⟩))
  all_goals
    have hF : OneR w ((w4.setCell ⟨w.heap.size + 1, 0, none⟩ (.int .i64 N)).setCell ⟨w.heap.size + 1, 1, none⟩ (.slice (some ⟨g, 0, none⟩) ((N + 63) / 64) ((N + 63) / 64))) N A la ca := And.left (by assumption)
    obtain ⟨r0, r1⟩ := hF.r.stored
    have hw3 := hg.size
    have hw2 := b2.size
    go_wp2_with fail
    refine bodyPost_ret (v := .agg #[.int .i64 N, .slice (some ⟨g, 0, none⟩) ((N + 63) / 64) ((N + 63) / 64)]) (by simp [results, Tryd.results28, go_sem, r0, r1]) rfl ?_
    simp at hw2 hw3
    exact ⟨g, rfl, by omega, (hrow.setOther (by show g ≠ w.heap.size + 1; omega) _).setOther (by show g ≠ w.heap.size + 1; omega) _, hF.b⟩
end Go.Proofs.YtijghglppgihmaaDoor
