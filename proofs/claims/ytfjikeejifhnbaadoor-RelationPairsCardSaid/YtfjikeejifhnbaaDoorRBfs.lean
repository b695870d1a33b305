/- The contract of relation.stepsTo. -/
import Derived.Test.YtfjikeejifhnbaaDoorRRed
namespace Go.Proofs.YtfjikeejifhnbaaDoor
open Go.RowKit
/- append of one number, and where it lies; the element lies in block B -/
theorem append_nat {ops : Array Oper} {rest : List Oper} {o : Oper} {a : Act} {Q : Exit → Act → World → Prop} (hgd : o.guard = none) (s x : Operand)
    (ho : o.op = .call { callee := .builtin .append, args := #[s, x], argTypes := #[49, 49] }) (base : Nat) (v : Value) (l : List Nat) (i : Nat) (I : Int) (w : World) (hs : a.eval s = v)
    (hown : w.ownsRow base 3 1 v l.length (vals l)) (B : Nat) (hx : a.eval x = .slice (some ⟨B, 0, none⟩) 1 1) (hB : w.heap[B]? = some (.cells #[.int .i64 I] 3 (0, 0))) (hI : (i : Int) = I) (hl : l.length ≤ 1000000) (hbase : base ≤ w.heap.size)
    (h : ∀ g cap w', w'.ownsRow base 3 1 (.slice (some ⟨g, 0, none⟩) (l.length + 1) cap) (l.length + 1) (vals (l ++ [i])) → w.grownBy w' v.ownBlock → (v.ownBlock = some g ∨ w.heap.size ≤ g) → wpList Tryd.prog ops Q rest (a.put o.dst (.slice (some ⟨g, 0, none⟩) (l.length + 1) cap)) w') :
    wpList Tryd.prog ops Q (o :: rest) a w := by
  subst hI
  refine append_one_at hgd s x 49 3 ho 1 8 _ Tryd.underlying49 Tryd.info3 rfl (by decide) (by decide) base v l.length (vals l) hs hown B #[.int .i64 (i : Int)] hx hB rfl ?_ hl hbase (fun g cap w' h1 h2 h3 _ => h g cap w' ?_ h2 ?_)
  · intro u hu
    simp at hu
    subst hu; rfl
  · rw [vals_snoc]; exact h1
  · exact h3.imp id (fun e => by rw [e]; exact Nat.le_refl _)
theorem own_cell {w : World} {base : Nat} {A : Option Addr} {c : Nat} {l : List Nat} (h : w.ownsRow base 3 1 (.slice A l.length c) l.length (vals l)) {k : Nat} (hk : k < l.length) : ∃ b, A = some ⟨b, 0, none⟩ ∧ w.cell? ⟨b, k, none⟩ = some (.int .i64 (l[k] : Nat)) := by
  obtain ⟨g, cap, hv, _, _⟩ := h.form (by omega)
  injection hv with e1 _ e2
  subst e1 e2
  refine ⟨g, rfl, ?_⟩
  have := h.cellAt k (by omega)
  rw [this]
  unfold vals
  rw [List.getElem?_map, List.getElem?_eq_getElem hk]; rfl
theorem heap_new_at2 (W : World) (o : Obj) (k : Nat) (hk : W.heap.size = k) : (W.alloc o).heap[k]? = some o := by subst hk; exact heap_alloc_new W o
theorem Tab.drew {w : World} (h : Tab w) : Tab w.drew := h
def nvals (d : Nat → Nat) : Nat → Value := fun k => .int .i64 (d k : Nat)
def StepsEnd (w : World) (n : Nat) (d : Nat → Nat) (e : Ending) (w' : World) : Prop :=
  ∃ g, e = .returned (.slice (some ⟨g, 0, none⟩) n n) ∧ w'.rowIs g 3 n (nvals d) ∧ w.heap.size ≤ g ∧ Below w.heap.size w w'
/- the inner loop: D of those that lead to the a-th have been looked at -/
structure Seen (T : Nat → Nat → Bool) (n s a : Nat) (L : List Nat) (D : Nat) (q : List Nat) (ks st : Nat → Nat) : Prop where
  b : Bfs T n s a q ks st
  d : ∀ k, (hk : k < L.length) → k < D → st L[k] ≠ 0 ∧ st L[k] ≤ ks a + 1
theorem Seen.old {T : Nat → Nat → Bool} {n s a : Nat} {L : List Nat} {D : Nat} {q : List Nat} {ks st : Nat → Nat} (h : Seen T n s a L D q ks st) (hD : D < L.length) (hne : st L[D] ≠ 0) (ha : a < q.length) (hn : L[D] < n) : Seen T n s a L (D + 1) q ks st :=
  ⟨h.b, fun k hk hkD => by
    by_cases e : k = D
    · subst e
      refine ⟨hne, ?_⟩
      obtain ⟨p, hp, hq⟩ := h.b.isin _ hn hne
      have hpl := (List.getElem?_eq_some_iff.1 hq).1
      rw [(h.b.st_of p _ hp hq).1]
      exact h.b.top p hpl ha
    · exact h.d k hk (by omega)⟩
theorem Seen.new {T : Nat → Nat → Bool} {n s a c : Nat} {L : List Nat} {D : Nat} {q : List Nat} {ks st : Nat → Nat} (h : Seen T n s a L D q ks st) (hD : D < L.length) (h0 : st L[D] = 0) (ha : q[a]? = some c) (hn : L[D] < n) (ht : T L[D] c = true) :
    Seen T n s a L (D + 1) (q ++ [L[D]]) (fun p => if p = q.length then ks a + 1 else ks p) (fun x => if x = L[D] then ks a + 1 else st x) := by
  have hal := (List.getElem?_eq_some_iff.1 ha).1
  refine ⟨h.b.found ha hn ht h0, fun k hk hkD => ?_⟩
  show (if L[k] = L[D] then _ else _) ≠ 0 ∧ (if L[k] = L[D] then _ else _) ≤ (if a = q.length then _ else _) + 1
  rw [if_neg (show ¬ a = q.length by omega)]
  by_cases e : k = D
  · subst e
    rw [if_pos rfl]
    exact ⟨by omega, Nat.le_refl _⟩
  · have := h.d k hk (by omega)
    have hne : L[k] ≠ L[D] := fun e => by rw [e, h0] at this; exact this.1 rfl
    rw [if_neg hne]
    exact this
theorem Seen.done {T : Nat → Nat → Bool} {n s a c : Nat} {L : List Nat} {q : List Nat} {ks st : Nat → Nat} (h : Seen T n s a L L.length q ks st) (ha : q[a]? = some c) (hL : ∀ i, i < n → T i c = true → i ∈ L) : Bfs T n s (a + 1) q ks st :=
  h.b.next ha (fun i hi ht => by
    obtain ⟨k, hk⟩ := List.mem_iff_getElem?.1 (hL i hi ht)
    obtain ⟨hkl, hke⟩ := List.getElem?_eq_some_iff.1 hk
    have := h.d k hkl hkl
    rw [hke] at this; exact this)
theorem Bfs.at_ {T : Nat → Nat → Bool} {n s a : Nat} {q : List Nat} {ks st : Nat → Nat} (h : Bfs T n s a q ks st) (ha : a < q.length) (h0 : a = 0 → st s = 0) : st q[a] = ks a ∧ q[a] < n := by
  refine ⟨?_, h.lt _ (List.getElem_mem ha)⟩
  have hq : q[a]? = some q[a] := List.getElem?_eq_getElem ha
  by_cases e : a = 0
  · subst e
    have := h.q0
    rw [hq] at this
    rw [Option.some.inj this, h.k0]; exact h0 rfl
  · exact (h.st_of a _ (by omega) hq).1
set_option maxRecDepth 100000 in
set_option maxHeartbeats 8000000 in
theorem steps_any (A : Option Addr) (n c s : Nat) (R : Nat → RowD) (w : World) (h : Rel w A n R) (hv : VRel n R) (hs : s < n) (hT : Tab w) :
    Calls Tryd.prog 66 #[.agg #[.slice A n c], .int .i64 s] w (StepsEnd w n (dist (mat R) n s)) := by
  have HH := Lib.hid h; clear h
  have hn := hv.1
  have HV := Lib.hid hv; clear hv
  have b0 : Below w.heap.size w (w.alloc (.cells #[.slice A n c] 24)) := (Below.refl _ _).alloc (Nat.le_refl _) _
  have r0 := relAt_new w A n c
  have c0 := r0.c0
  go_enter Tryd.func66, Tryd.ntmps66
  go_wp2_with fail
  refine (inverse_ok A n c R _ (HH.out.below b0) HV.out (hT.below b0)).mono ?_; rintro e w2 ⟨A2, c2, R2, rfl, hR2, _, hV2, hM2, b2⟩
  have bB : Below w2.heap.size w2 (w2.alloc (.cells #[.slice A2 n c2] 24)) := (Below.refl _ _).alloc (Nat.le_refl _) _
  have B2 := below_next (below_next b0 b2) bB
  have r2 := (r0.below b2).below bB
  have i2 := relAt_new w2 A2 n c2
  have HR2 := Lib.hid (hR2.below bB)
  have HV2 := Lib.hid hV2
  have HM2 := Lib.hid hM2
  have hmk := make_ints n (by omega)
  clear b0 r0 c0 b2 bB hR2 hV2 hM2
  have c0 := r2.c0
  have c0' := (r2.alloc (.cells (madeCells #[.int .i64 0] n) 3)).c0
  have hsz : (w2.alloc (.cells #[.slice A2 n c2] 24)).heap.size = w2.heap.size + 1 := by simp
  go_wp2_with fail
  clear c0 c0' hmk
  generalize w2.heap.size = pi at *
  generalize w2.alloc (.cells #[.slice A2 n c2] 24) = W at *
  have hP0 := World.rowIs_made W (.int .i64 0) n 3
  have hown0 := World.ownsRow_lit (base := pi + 2) (e := 3) (size := 1) (W.alloc (.cells (madeCells #[.int .i64 0] n) 3)) #[.int .i64 (s : Int)] 1 (by simp; omega) (by decide) rfl
  have hP1 := (hP0.alloc (.cells #[.int .i64 (s : Int)] 3)).congr (g := nvals fun _ => 0) (fun k _ => rfl)
  have bW : Below W.heap.size W ((W.alloc (.cells (madeCells #[.int .i64 0] n) 3)).alloc (.cells #[.int .i64 (s : Int)] 3)) := ((Below.refl _ _).alloc (Nat.le_refl _) _).alloc (by simp) _
  rw [hsz] at hP1
  have hsz2 : (W.alloc (.cells (madeCells #[.int .i64 0] n) 3)).heap.size = pi + 2 := by simp [hsz]
  rw [hsz2] at hown0
  have HSZ := Lib.hid hsz
  clear hsz hsz2 hP0
  have hBf := Lib.hid (bfs_start (T := mat R) hs)
  have hA0 : Hid ((0 : Nat) = 0 → (fun _ => 0 : Nat → Nat) s = 0) := fun _ => rfl
  go_loopw [8, 9, 10, 12] (fun x i _ _ wr => ∃ (a : Nat) (q : List Nat) (ks st : Nat → Nat) (v : Value), v = x ∧ i = .int .i64 a ∧ a ≤ q.length ∧ Hid (Bfs (mat R) n s a q ks st) ∧ Hid (a = 0 → st s = 0) ∧ wr.ownsRow (pi + 2) 3 1 v q.length (vals q) ∧ wr.rowIs (pi + 1) 3 n (nvals st) ∧ Below W.heap.size W wr) (fun _ i _ _ _ => n + 2 - (intOf i).toNat)
  case atStart => exact ⟨0, [s], _, _, _, rfl, rfl, by simp, hBf, hA0, by simpa [vals] using hown0, hP1, bW⟩
  case round =>
    clear hBf hA0 hown0 hP1 bW
    obtain ⟨a, q, ks, st, v, rfl, rfl, haq, hBf, hA0, hown, hP, hB⟩ := hrel
    obtain ⟨Av, cv, rfl, _, _⟩ := own_ints hown
    have hql := hBf.out.len_le
    by_cases hlt : a < q.length
    · obtain ⟨bq, rfl, y0⟩ := own_cell hown hlt
      obtain ⟨hst, hcn⟩ := hBf.out.at_ hlt hA0.out
      have z0 := hP.cell hcn
      replace z0 : wr.cell? ⟨pi + 1, q[a], none⟩ = some (.int .i64 (ks a : Nat)) := by rw [z0]; show some (Value.int .i64 (st q[a] : Nat)) = _; rw [hst]
      have hka : ks a ≤ a := hBf.out.keyle a hlt
      have hqa : Hid (q[a]? = some q[a]) := List.getElem?_eq_getElem hlt
      have hwrap : IntKind.i64.wrap ((ks a : Int) + 1) = (ks a : Int) + 1 := IntWalk.i64_in _ (by omega)
      have hi2 := (i2.below hB).c0
      obtain ⟨bi, oi, rfl, hbi, hci⟩ := (HR2.out.below hB) (by omega)
      obtain ⟨x0, x1, x2⟩ := hci _ hcn
      have X2 := Lib.hid x2; clear x2 hci
      have hrow := members_row n (R2 q[a])
      have HRow : Hid (∀ w', Wds w' (R2 q[a]).A (R2 q[a]).l (R2 q[a]).f → Tab w' → Calls Tryd.prog 48 #[.agg #[.int .i64 (R2 q[a]).N, .slice (R2 q[a]).A (R2 q[a]).l (R2 q[a]).c]] w' (RowOut w' (rowL (mat R2) n q[a]))) := fun w' h1 h2 => hrow w' h1 (HV2.out.2 _ hcn) h2
      have hLT : Hid (∀ i, i ∈ rowL (mat R2) n q[a] ↔ i < n ∧ mat R i q[a] = true) := fun i => by
        rw [mem_rowL]
        constructor
        · rintro ⟨h1, h2⟩; rw [HM2.out _ hcn i h1] at h2; exact ⟨h1, h2⟩
        · rintro ⟨h1, h2⟩; exact ⟨h1, by rw [HM2.out _ hcn i h1]; exact h2⟩
      have hlr := rowL_len (mat R2) n q[a]
      have HST := Lib.hid hst
      have hTr := Lib.hid (hT.below (below_next B2 hB))
      clear hrow hst
      generalize rowL (mat R2) n q[a] = L at *
      generalize R2 q[a] = r2' at *
      obtain ⟨N1, A1, l1, c1, f1⟩ := r2'
      replace HRow : Hid (∀ w', Wds w' A1 l1 f1 → Tab w' → Calls Tryd.prog 48 #[.agg #[.int .i64 N1, .slice A1 l1 c1]] w' (RowOut w' L)) := HRow
      replace X2 : Hid (Wds wr A1 l1 f1) := X2
      replace x0 : wr.cell? ⟨bi, oi + q[a] * 2, none⟩ = some (.int .i64 N1) := x0
      replace x1 : wr.cell? ⟨bi, oi + q[a] * 2 + 1, none⟩ = some (.slice A1 l1 c1) := x1
      generalize hqe : q[a] = c at *
      have HQE := Lib.hid hqe
      clear hqe
      go_wp2_with fail
      go_region_with (go_at_call 48; (with_reducible refine (HRow.out _ X2.out.drew hTr.out.drew).mono ?_); rintro e w5 ⟨vL, rfl, hownL, b5⟩; obtain ⟨AL, cL, rfl, _, _⟩ := own_ints hownL)
      all_goals
        have b5' := below_next ((Below.refl _ wr).drew) b5
        have hP5 := row_below hP b5'
        have hown5 := own_below hown b5'
        have B5 := below_next hB b5'
        obtain ⟨gq, cq, hqv, hqb, hql2⟩ := hown.form (by omega)
        have hqe2 : bq = gq := by injection hqv with e1; injection e1 with e1; injection e1
        subst hqe2
        have hwr : wr.drew.heap.size = wr.heap.size := rfl
        have hap : (Value.slice AL L.length cL).ownBlock = none ∨ (Value.slice AL L.length cL).ownBlock ≠ (Value.slice (some ⟨bq, 0, none⟩) q.length cv).ownBlock := by
          cases hb : (Value.slice AL L.length cL).ownBlock with
          | none => exact Or.inl rfl
          | some x => right; intro e; have h1 := (hownL.lt x hb).1; injection e with e; have e' : x = bq := e; omega
        replace hownL := own_mono (base' := pi + 2) hownL (by omega)
        have hSn : Hid (Seen (mat R) n s a L 0 q ks st) := ⟨hBf.out, fun k _ hk => absurd hk (Nat.not_lt_zero _)⟩
        have hKA : Hid (q[a]? = some c) := hqa.out
        clear hP hown hB x0 x1 y0 z0 hi2 HRow X2 b5 b5' hqv hqb hql2 hwr hwrap
        simp [Act.put]
        go_wp2_with fail
        go_loopw [8, 12, 48] (fun x _ i wr => ∃ (D : Nat) (q' : List Nat) (ks' st' : Nat → Nat) (v : Value), v = x ∧ i = .int .i64 D ∧ D ≤ L.length ∧ Hid (Seen (mat R) n s a L D q' ks' st') ∧ Hid (ks' a = ks a ∧ q'[a]? = some c) ∧ wr.ownsRow (pi + 2) 3 1 v q'.length (vals q') ∧ wr.rowIs (pi + 1) 3 n (nvals st') ∧ wr.ownsRow (pi + 2) 3 1 (.slice AL L.length cL) L.length (vals L) ∧ Hid ((Value.slice AL L.length cL).ownBlock = none ∨ (Value.slice AL L.length cL).ownBlock ≠ v.ownBlock) ∧ Below W.heap.size W wr) (fun _ _ i _ => L.length - (intOf i).toNat)
        case atStart => exact ⟨0, q, ks, st, _, rfl, rfl, by omega, hSn, ⟨rfl, hKA.out⟩, hown5, hP5, hownL, hap, B5⟩
        case round =>
          clear hSn hKA hown5 hP5 hownL hap B5
          obtain ⟨D, q', ks', st', v, rfl, rfl, hD, hSn, hKA, hown, hP, hownL, hap, hB⟩ := hrel
          obtain ⟨Av, cv', rfl, _, _⟩ := own_ints hown
          by_cases hlt2 : D < L.length
          · obtain ⟨bL, rfl, y0⟩ := own_cell hownL hlt2
            obtain ⟨hin, hit⟩ := (hLT.out _).1 (List.getElem_mem hlt2)
            have hal : a < q'.length := (List.getElem?_eq_some_iff.1 hKA.out.2).1
            have hqn := hSn.out.b.len_le
            have z0 := hP.cell hin
            replace z0 : wr.cell? ⟨pi + 1, L[D], none⟩ = some (.int .i64 (st' L[D] : Nat)) := z0
            by_cases h0 : st' L[D] = 0
            · have z1 := hP.frozen L[D]
              rw [h0] at z0
              have hSn2 := Lib.hid (hSn.out.new hlt2 h0 hKA.out.2 hin hit)
              have hKA2 : Hid ((if a = q'.length then ks' a + 1 else ks' a) = ks a ∧ (q' ++ [L[D]])[a]? = some c) := ⟨by rw [if_neg (by omega)]; exact hKA.out.1, by rw [List.getElem?_append_left hal]; exact hKA.out.2⟩
              have hP2 : Hid ((wr.setCell ⟨pi + 1, L[D], none⟩ (.int .i64 ((ks a : Int) + 1))).rowIs (pi + 1) 3 n (nvals fun x => if x = L[D] then ks' a + 1 else st' x)) := (hP.set L[D] (.int .i64 ((ks a : Int) + 1))).congr (fun k _ => by
                show (if k = L[D] then Value.int .i64 ((ks a : Int) + 1) else Value.int .i64 (st' k : Nat)) = Value.int .i64 ((if k = L[D] then ks' a + 1 else st' k : Nat) : Int)
                by_cases e : k = L[D]
                · rw [if_pos e, if_pos e, hKA.out.1]; simp
                · rw [if_neg e, if_neg e])
              have hL2 := Lib.hid (ownsRow_setCell_below hownL (a := ⟨pi + 1, L[D], none⟩) (by show pi + 1 < pi + 2; omega) (.int .i64 ((ks a : Int) + 1)))
              have hW1 : W.heap.size ≤ pi + 1 := by rw [HSZ.out]; exact Nat.le_refl _
              have B2' := hB.setCell (p := ⟨pi + 1, L[D], none⟩) hW1 (.int .i64 ((ks a : Int) + 1))
              have hown2 := ownsRow_setCell_below hown (a := ⟨pi + 1, L[D], none⟩) (by show pi + 1 < pi + 2; omega) (.int .i64 ((ks a : Int) + 1))
              have hbase : pi + 2 ≤ wr.heap.size := by have := hP.lt; omega
              clear hSn hKA hP hownL hB hown h0
              generalize L[D] = i at *
              go_wp2_with (at_builtin; refine append_nat rfl (.tmp 61) (.tmp 63) rfl (pi + 2) (.slice Av q'.length cv') q' i i _ rfl (hown2.alloc _) wr.heap.size rfl (heap_new_at2 _ _ _ (by simp)) rfl (by omega) (by simp; omega) ?_)
              intro g cap w7 hown7 hg7 hat
              have bA : Below (wr.setCell ⟨pi + 1, i, none⟩ (.int .i64 ((ks a : Int) + 1))).heap.size (wr.setCell ⟨pi + 1, i, none⟩ (.int .i64 ((ks a : Int) + 1))) ((wr.setCell ⟨pi + 1, i, none⟩ (.int .i64 ((ks a : Int) + 1))).alloc (.cells #[.int .i64 (i : Int)] 3)) := (Below.refl _ _).alloc (Nat.le_refl _) _
              have hownA := own_below hown2 bA
              have hLA := own_below hL2.out bA
              have hPA := row_below hP2.out bA
              have hP7 := hPA.of_block (hg7.block (pi + 1) hPA.lt (fun e => by have := (hownA.lt _ e.symm).1; omega))
              have hL7 := hLA.kept hg7 hap.out
              have B7 := grown_below2 (below_next B2' (by simpa using bA)) hownA (by rw [HSZ.out]; omega) hg7
              have hap7 : Hid ((Value.slice (some ⟨bL, 0, none⟩) L.length cL).ownBlock = none ∨ (Value.slice (some ⟨bL, 0, none⟩) L.length cL).ownBlock ≠ (Value.slice (some ⟨g, 0, none⟩) (q'.length + 1) cap).ownBlock) := by
                right
                intro e
                have e2 : bL = g := by injection e with e
                rcases hat with h1 | h1
                · rcases hap.out with h2 | h2
                  · cases h2
                  · exact h2 (by rw [h1, ← e2]; rfl)
                · have := (hL2.out.lt bL rfl).2; simp at this; omega
              clear hP2 hL2 B2' hown2 bA hownA hLA hPA hg7 hat z0 z1 y0 hap
              go_wp2_with fail
              go_roundw
              case rel => exact ⟨D + 1, q' ++ [i], _, _, _, rfl, by go_num, by omega, hSn2, hKA2, by rw [List.length_append, List.length_singleton]; exact hown7, hP7, hL7, hap7, B7⟩
              case measure => simp [intOf]; omega
            · have hz : (((st' L[D] : Nat) : Int) == 0) = false := beq_false_of_ne (by omega)
              have hSn2 := Lib.hid (hSn.out.old hlt2 h0 hal hin)
              clear h0
              generalize L[D] = i at *
              go_wp2_with fail
              go_roundw
              case rel => exact ⟨D + 1, q', ks', st', _, rfl, by go_num, by omega, hSn2, hKA, hown, hP, hownL, hap, hB⟩
              case measure => simp [intOf]; omega
          · obtain rfl : D = L.length := by omega
            have hal : a < q'.length := (List.getElem?_eq_some_iff.1 hKA.out.2).1
            have hB2 : Hid (Bfs (mat R) n s (a + 1) q' ks' st') := hSn.out.done hKA.out.2 (fun i hi ht => (hLT.out i).2 ⟨hi, ht⟩)
            have hA2 : Hid (a + 1 = 0 → st' s = 0) := fun h => absurd h (by omega)
            have hq2 := hSn.out.b.len_le
            have hwrap : IntKind.i64.wrap ((a : Int) + 1) = (a : Int) + 1 := IntWalk.i64_in _ (by omega)
            go_wp2_with fail
            go_roundw
            case rel => exact ⟨a + 1, q', ks', st', _, rfl, by go_num, by omega, hB2, hA2, hown, hP, hB⟩
            case measure => simp [intOf]; omega
    · have hd := Lib.hid (hBf.out.dist hs (by omega))
      have hP2 := hP.congr (g := nvals (dist (mat R) n s)) (fun k hk => by show Value.int .i64 (st k : Nat) = Value.int .i64 (dist (mat R) n s k : Nat); rw [hd.out k hk])
      have hWs := HSZ.out
      have hWB := B2.size
      clear hP hd
      go_wp2_with fail
      go_ret
      exact ⟨pi + 1, rfl, hP2, by omega, below_next B2 hB⟩
end Go.Proofs.YtfjikeejifhnbaaDoor
