/- The contracts of the reference on sets: Without and Union. -/
import Derived.Test.YtijghglppgihmaaDoorRefE
namespace Go.Proofs.YtijghglppgihmaaDoor
open Go.RowKit
theorem ofl_u64 (l : List Nat) (m : Nat) : U64 (ofl l) m := ow_u64 _ _ _
theorem ints_built {w w2 : World} {i n : Nat} (b : Below (w.alloc (.cells #[.int .i64 (i : Int)] 3)).heap.size (w.alloc (.cells #[.int .i64 (i : Int)] 3)) w2) (hn : n = w.heap.size) : Ints w2 (some ⟨n, 0, none⟩) 1 (fun k => (([i].getD k 0 : Nat) : Int)) := by
  subst hn
  intro _
  refine ⟨w.heap.size, 0, rfl, by have := b.size; simp at this; omega, fun k hk => ?_⟩
  obtain rfl : k = 0 := by omega
  exact (b.cell (p := ⟨w.heap.size, 0, none⟩) (by simp)).trans (cell_of_row _ _ 0 _ _ _ (heap_alloc_new w _))
set_option maxHeartbeats 4000000 in
theorem refWithout_any (N i : Nat) (A : Option Addr) (la ca : Nat) (f : Nat → Nat) (w : World) (ha : Wds w A la f) (hN : N ≤ 512) (hla : la = (N + 63) / 64) (hi : i < N) :
    Calls Tryd.prog 29 #[.agg #[.int .i64 N, .slice A la ca], .int .i64 i] w (SetNew w N ((N + 63) / 64) (ofl (sel false f (ofl [i]) N))) := by
  have HA := Lib.hid ha; clear ha
  have HLA := Lib.hid hla; clear hla
  have hz : ∀ k, k < 1 → [i].getD k 0 < N := by
    intro k hk
    obtain rfl : k = 0 := by omega
    exact hi
  have HZ := Lib.hid hz; clear hz
  go_enter Tryd.func29, Tryd.ntmps29
  go_wp2_with fail
  have h0 := oneR_new w N A la ca
  go_region_held3 (fun w' => OneR w w' N A la ca ∧ w'.cell? ⟨w.heap.size, 0, none⟩ = some (.int .i64 N) ∧ w'.cell? ⟨w.heap.size, 1, none⟩ = some (.slice A la ca) ∧ w'.cell? ⟨w.heap.size + 1, 0, none⟩ = some (RC w' (w.heap.size + 1) 0) ∧ w'.cell? ⟨w.heap.size + 1, 1, none⟩ = some (RC w' (w.heap.size + 1) 1) ∧ w'.frozen? ⟨w.heap.size + 1, 0, none⟩ = false ∧ w'.frozen? ⟨w.heap.size + 1, 1, none⟩ = false)
    (first
      | exact h0.drew.full
      | exact (OneR.alloc (And.left (by assumption)) _).full
      | exact (OneR.next (And.left (by assumption)) (by assumption)).full
      | exact (OneR.alloc h0 _).drew.full
      | exact (OneR.stored (And.left (by assumption)) _ _).full)
    (first
      | (go_at_call 19; refine (refOf_any N _ 1 _ (fun k => [i].getD k 0) _ hN (by first | exact ints_built (Below.refl _ _).drew (by simp) | exact ints_built (Below.refl _ _) (by simp)) (by decide) HZ.out).mono ?_; rintro e w4 ⟨g1, rfl, hg1, hrow1, b4⟩)
      | (go_at_call 36; refine (refMinus_any N A _ la ca _ _ f (ofl [i]) _ (HA.out.below (OneR.b (And.left (by assumption)))) (row_wds hrow1 (ofl_u64 _ _)) hN HLA.out rfl).mono ?_; rintro e w5 ⟨g, rfl, hg, hrow, b5⟩))
  have hF : OneR w ((w5.setCell ⟨w.heap.size + 1, 0, none⟩ (.int .i64 N)).setCell ⟨w.heap.size + 1, 1, none⟩ (.slice (some ⟨g, 0, none⟩) ((N + 63) / 64) ((N + 63) / 64))) N A la ca := And.left (by assumption)
  obtain ⟨r0, r1⟩ := hF.r.stored
  have hw3 := b4.size
  go_wp2_with fail
  refine bodyPost_ret (v := .agg #[.int .i64 N, .slice (some ⟨g, 0, none⟩) ((N + 63) / 64) ((N + 63) / 64)]) (by simp [results, Tryd.results29, go_sem, r0, r1]) rfl ?_
  simp at hw3
  exact ⟨g, rfl, by omega, (hrow.setOther (by show g ≠ w.heap.size + 1; omega) _).setOther (by show g ≠ w.heap.size + 1; omega) _, hF.b⟩
/- two boxed sets, and the cell of the result -/
structure TwoR (w wr : World) (N M : Int) (A B : Option Addr) (la ca lb cb : Nat) : Prop where
  two : Two w wr N M A B la ca lb cb
  r : Res wr (w.heap.size + 2)
section
variable {w wr w1 w2 : World} {N M : Int} {A B : Option Addr} {la ca lb cb : Nat}
theorem twoR_new (w : World) (N M : Int) (A B : Option Addr) (la ca lb cb : Nat) :
    TwoR w (((w.alloc (.cells #[.int .i64 N, .slice A la ca] 24)).alloc (.cells #[.int .i64 M, .slice B lb cb] 24)).alloc (.cells #[.int .i64 0, .slice none 0 0] 24)) N M A B la ca lb cb :=
  have h := three_new w N M A B la ca lb cb
  ⟨h.two, ⟨_, _, h.r⟩⟩
theorem TwoR.full (h : TwoR w wr N M A B la ca lb cb) : TwoR w wr N M A B la ca lb cb ∧ wr.cell? ⟨w.heap.size, 0, none⟩ = some (.int .i64 N) ∧ wr.cell? ⟨w.heap.size, 1, none⟩ = some (.slice A la ca) ∧ wr.cell? ⟨w.heap.size + 1, 0, none⟩ = some (.int .i64 M) ∧ wr.cell? ⟨w.heap.size + 1, 1, none⟩ = some (.slice B lb cb) ∧
    wr.cell? ⟨w.heap.size + 2, 0, none⟩ = some (RC wr (w.heap.size + 2) 0) ∧ wr.cell? ⟨w.heap.size + 2, 1, none⟩ = some (RC wr (w.heap.size + 2) 1) ∧ wr.frozen? ⟨w.heap.size + 2, 0, none⟩ = false ∧ wr.frozen? ⟨w.heap.size + 2, 1, none⟩ = false :=
  ⟨h, h.two.s.c0, h.two.s.c1, h.two.t.c0, h.two.t.c1, h.r.cells⟩
theorem TwoR.drew (h : TwoR w wr N M A B la ca lb cb) : TwoR w wr.drew N M A B la ca lb cb := ⟨⟨h.two.s, h.two.t, h.two.b.drew⟩, h.r⟩
theorem TwoR.next (h : TwoR w wr N M A B la ca lb cb) (k : Below wr.heap.size wr w2) : TwoR w w2 N M A B la ca lb cb :=
  ⟨h.two.next k, by obtain ⟨x, y, hb⟩ := h.r; exact ⟨x, y, (k.block _ h.r.lt).trans hb⟩⟩
theorem TwoR.alloc (h : TwoR w wr N M A B la ca lb cb) (o : Obj) : TwoR w (wr.alloc o) N M A B la ca lb cb := h.next ((Below.refl _ _).alloc (Nat.le_refl _) o)
theorem TwoR.grown {base : Nat} {e : TypeId} {size : Nat} {v : Value} {n : Nat} {xs : List Value} (h : TwoR w wr N M A B la ca lb cb) (hown : wr.ownsRow base e size v n xs) (hb : w.heap.size + 3 ≤ base) (hg : wr.grownBy w1 v.ownBlock) : TwoR w w1 N M A B la ca lb cb :=
  ⟨⟨(hg.block _ h.two.s.lt (fun e => by have := (hown.lt _ e.symm).1; omega)).trans h.two.s, (hg.block _ h.two.t.lt (fun e => by have := (hown.lt _ e.symm).1; omega)).trans h.two.t, h.two.b.grown hg (by have := h.r.lt; omega) (fun k hk => by have := (hown.lt k hk).1; omega)⟩, by
    obtain ⟨x, y, hx⟩ := h.r
    exact ⟨x, y, (hg.block _ h.r.lt (fun e => by have := (hown.lt _ e.symm).1; omega)).trans hx⟩⟩
theorem TwoR.stored (h : TwoR w wr N M A B la ca lb cb) (x y : Value) : TwoR w ((wr.setCell ⟨w.heap.size + 2, 0, none⟩ x).setCell ⟨w.heap.size + 2, 1, none⟩ y) N M A B la ca lb cb :=
  ⟨⟨(h.two.s.far (by show w.heap.size ≠ w.heap.size + 2; omega) _).far (by show w.heap.size ≠ w.heap.size + 2; omega) _, (h.two.t.far (by show w.heap.size + 1 ≠ w.heap.size + 2; omega) _).far (by show w.heap.size + 1 ≠ w.heap.size + 2; omega) _, (h.two.b.setCell (by show w.heap.size ≤ w.heap.size + 2; omega) _).setCell (by show w.heap.size ≤ w.heap.size + 2; omega) _⟩, (h.r.set0 _).set1 _⟩
end
set_option maxHeartbeats 4000000 in
theorem refUnion_any (N : Nat) (A B : Option Addr) (la ca lb cb : Nat) (f g : Nat → Nat) (w : World) (ha : Wds w A la f) (hb : Wds w B lb g) (hN : N ≤ 512) (hla : la = (N + 63) / 64) (hlb : lb = (N + 63) / 64) :
    Calls Tryd.prog 34 #[.agg #[.int .i64 N, .slice A la ca], .agg #[.int .i64 N, .slice B lb cb]] w (SetNew w N ((N + 63) / 64) (ofl (mem f N ++ mem g N))) := by
  have HA := Lib.hid ha; clear ha
  have HB := Lib.hid hb; clear hb
  have hNa : N ≤ 64 * la := by omega
  have hNb : N ≤ 64 * lb := by omega
  have ha9 : la ≤ 9 := by omega
  have hb9 : lb ≤ 9 := by omega
  have hmm : ∀ j, j ∈ mem f N ++ mem g N → j < N := by
    intro j hj
    rcases List.mem_append.1 hj with h | h <;> exact (mem_in.1 h).1
  have HM := Lib.hid hmm; clear hmm hla hlb
  have hmf := mem_len_le f N
  have hmg := mem_len_le g N
  go_enter Tryd.func34, Tryd.ntmps34
  go_wp2_with fail
  have h0 := twoR_new w N N A B la ca lb cb
  go_region_held3 (fun w' => TwoR w w' N N A B la ca lb cb ∧ w'.cell? ⟨w.heap.size, 0, none⟩ = some (.int .i64 N) ∧ w'.cell? ⟨w.heap.size, 1, none⟩ = some (.slice A la ca) ∧ w'.cell? ⟨w.heap.size + 1, 0, none⟩ = some (.int .i64 N) ∧ w'.cell? ⟨w.heap.size + 1, 1, none⟩ = some (.slice B lb cb) ∧
      w'.cell? ⟨w.heap.size + 2, 0, none⟩ = some (RC w' (w.heap.size + 2) 0) ∧ w'.cell? ⟨w.heap.size + 2, 1, none⟩ = some (RC w' (w.heap.size + 2) 1) ∧ w'.frozen? ⟨w.heap.size + 2, 0, none⟩ = false ∧ w'.frozen? ⟨w.heap.size + 2, 1, none⟩ = false)
    (first
      | exact h0.drew.full
      | exact (TwoR.next (And.left (by assumption)) b2).full
      | exact (TwoR.next (And.left (by assumption)) b3).full
      | exact (TwoR.next (And.left (by assumption)) b4).full
      | exact (TwoR.grown (And.left (by assumption)) hownV (by omega) hg).full
      | exact (TwoR.grown (And.left (by assumption)) (own_below hownV b3) (by omega) hg).full
      | exact (TwoR.stored (And.left (by assumption)) _ _).full)
    (first
      | (go_at_call_of 23 (Value.agg #[.int .i64 N, .slice A la ca]); refine (refMembers_any N A la ca f _ (HA.out.below (Two.b (TwoR.two (And.left (by assumption))))) hNa ha9).mono ?_; rintro e w2 ⟨v, rfl, hown1, b2⟩
         have hownV := own_mono (base' := w.heap.size + 3) hown1 (Res.lt (TwoR.r (And.left (by assumption)))))
      | (go_at_call_of 23 (Value.agg #[.int .i64 N, .slice B lb cb]); refine (refMembers_any N B lb cb g _ (HB.out.below (Two.b (TwoR.two (And.left (by assumption))))) hNb hb9).mono ?_; rintro e w3 ⟨u, rfl, hown2, b3⟩)
      | (refine step_append_row (by rfl) (.tmp 8) (.tmp 10) (by rfl) (w.heap.size + 3) _ v u (mem f N) (mem g N) _ (by rfl) (by first | exact hownV | exact own_below hownV b3) (by rfl) (by first | exact hown2 | exact own_below hown2 b2) (by omega) (Res.lt (TwoR.r (And.left (by assumption)))) ?_; intro v2 w4 hownG hg)
      | (go_at_call 19; refine (refOf_own N v2 (mem f N ++ mem g N) _ _ hN hownG (by simp; omega) HM.out).mono ?_; rintro e w5 ⟨gg, rfl, hg4, hrow, b4⟩))
  all_goals
    have hF : TwoR w ((w5.setCell ⟨w.heap.size + 2, 0, none⟩ (.int .i64 N)).setCell ⟨w.heap.size + 2, 1, none⟩ (.slice (some ⟨gg, 0, none⟩) ((N + 63) / 64) ((N + 63) / 64))) N N A B la ca lb cb := And.left (by assumption)
    obtain ⟨r0, r1⟩ := hF.r.stored
    have hw4 := hg.size
    have hw3 := b3.size
    have hw2 := b2.size
    go_wp2_with fail
    refine bodyPost_ret (v := .agg #[.int .i64 N, .slice (some ⟨gg, 0, none⟩) ((N + 63) / 64) ((N + 63) / 64)]) (by simp [results, Tryd.results34, go_sem, r0, r1]) rfl ?_
    simp at hw2 hw3 hw4
    exact ⟨gg, rfl, by omega, (hrow.setOther (by show gg ≠ w.heap.size + 2; omega) _).setOther (by show gg ≠ w.heap.size + 2; omega) _, hF.two.b⟩
end Go.Proofs.YtijghglppgihmaaDoor
