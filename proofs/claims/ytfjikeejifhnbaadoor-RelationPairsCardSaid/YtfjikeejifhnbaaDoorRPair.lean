/- The contract of relation.Pairs. -/
import Derived.Test.YtfjikeejifhnbaaDoorRVal
namespace Go.Proofs.YtfjikeejifhnbaaDoor
open Go.RowKit
/- a list of pairs as values -/
def pvals (l : List (Nat × Nat)) : List Value := l.flatMap fun p => [.int .i64 (p.1 : Nat), .int .i64 (p.2 : Nat)]
theorem pvals_len (l : List (Nat × Nat)) : (pvals l).length = l.length * 2 := by
  induction l with
  | nil => rfl
  | cons x l ih =>
    have : pvals (x :: l) = [.int .i64 (x.1 : Nat), .int .i64 (x.2 : Nat)] ++ pvals l := rfl
    rw [this, List.length_append, ih, List.length_cons]; simp; omega
theorem pvals_snoc (l : List (Nat × Nat)) (i j : Nat) : pvals (l ++ [(i, j)]) = pvals l ++ [.int .i64 (i : Nat), .int .i64 (j : Nat)] := by
  unfold pvals
  rw [List.flatMap_append]; rfl
/- own rows of different types lie apart -/
theorem own_apart {w : World} {base base' : Nat} {e e' : TypeId} {size size' : Nat} {v v' : Value} {n n' : Nat} {xs xs' : List Value} (h : w.ownsRow base e size v n xs) (h' : w.ownsRow base' e' size' v' n' xs') (hne : e ≠ e') : v.ownBlock = none ∨ v.ownBlock ≠ v'.ownBlock := by
  rcases h.2 with ⟨rfl, _⟩ | ⟨g, cap, cur, rfl, _, hg, _⟩
  · exact Or.inl rfl
  · right
    rcases h'.2 with ⟨rfl, _⟩ | ⟨g', cap', cur', rfl, _, hg', _⟩
    · simp [Value.ownBlock]
    · intro he
      have he' : g = g' := by simpa [Value.ownBlock] using he
      subst he'
      rw [hg] at hg'
      injection hg' with h1
      injection h1 with _ h2
      exact hne h2
theorem grown_below2 {w wr w1 : World} {base : Nat} {e : TypeId} {size : Nat} {v : Value} {n : Nat} {xs : List Value} (h : Below w.heap.size w wr) (hown : wr.ownsRow base e size v n xs) (hb : w.heap.size ≤ base) (hg : wr.grownBy w1 v.ownBlock) : Below w.heap.size w w1 :=
  h.grown hg h.size (fun k hk => Nat.le_trans hb (hown.lt k hk).1)
/- append of one pair -/
theorem append_pair {ops : Array Oper} {rest : List Oper} {o : Oper} {a : Act} {Q : Exit → Act → World → Prop} (hgd : o.guard = none) (s x : Operand)
    (ho : o.op = .call { callee := .builtin .append, args := #[s, x], argTypes := #[25, 25] }) (base : Nat) (v : Value) (l : List (Nat × Nat)) (i j : Nat) (I J : Int) (w : World) (hs : a.eval s = v)
    (hown : w.ownsRow base 38 2 v l.length (pvals l)) (hx : a.eval x = .slice (some ⟨w.heap.size, 0, none⟩) 1 1) (hl : l.length ≤ 1000000) (hbase : base ≤ w.heap.size) (hI : (i : Int) = I) (hJ : (j : Int) = J)
    (h : ∀ v' w', w'.ownsRow base 38 2 v' (l ++ [(i, j)]).length (pvals (l ++ [(i, j)])) → (w.alloc (.cells #[.int .i64 I, .int .i64 J] 38)).grownBy w' v.ownBlock → wpList Tryd.prog ops Q rest (a.put o.dst v') w') :
    wpList Tryd.prog ops Q (o :: rest) a (w.alloc (.cells #[.int .i64 I, .int .i64 J] 38)) := by
  subst hI hJ
  refine append_one_at hgd s x 25 38 ho 2 16 _ Tryd.underlying25 Tryd.info38 rfl (by decide) (by decide) base v l.length (pvals l) hs (hown.alloc _) w.heap.size #[.int .i64 (i : Int), .int .i64 (j : Int)] hx (heap_alloc_new w _) rfl ?_ hl (by simp; omega) (fun g cap w' h1 h2 _ _ => h _ w' ?_ h2)
  · intro u hu
    simp at hu
    rcases hu with rfl | rfl <;> rfl
  · rw [pvals_snoc, List.length_append]; exact h1
def PairsOk (w : World) (l : List (Nat × Nat)) (e : Ending) (w' : World) : Prop := ∃ v, e = .returned (.tuple #[v, .int .i64 0]) ∧ w'.ownsRow w.heap.size 38 2 v l.length (pvals l) ∧ Below w.heap.size w w'
def PairsErr (w : World) (er : Int) (e : Ending) (w' : World) : Prop := e = .returned (.tuple #[.slice none 0 0, .int .i64 er]) ∧ Below w.heap.size w w'
theorem pairs_err (A : Option Addr) (n c : Nat) (R : Nat → RowD) (w : World) (h : Rel w A n R) (hn : n ≤ 1000000) (hv : ¬ VRel n R) :
    Calls Tryd.prog 16 #[.agg #[.slice A n c]] w (PairsErr w 1) := by
  have HH := Lib.hid h; clear h
  have HV := Lib.hid hv; clear hv
  have b0 : Below w.heap.size w (w.alloc (.cells #[.slice A n c] 24)) := (Below.refl _ _).alloc (Nat.le_refl _) _
  have r0 := relAt_new w A n c
  have c0 := r0.c0
  go_enter Tryd.func16, Tryd.ntmps16
  go_wp2_with fail
  refine (rvalid_no A n c R _ (HH.out.below b0) hn HV.out).mono ?_; rintro e w2 ⟨rfl, b2⟩
  go_wp2_with fail
  go_ret2
  exact ⟨rfl, below_next b0 b2⟩
set_option maxHeartbeats 4000000 in
theorem pairs_ok (A : Option Addr) (n c : Nat) (R : Nat → RowD) (w : World) (h : Rel w A n R) (hv : VRel n R) (hT : Tab w) :
    Calls Tryd.prog 16 #[.agg #[.slice A n c]] w (PairsOk w (pairsL (mat R) n n)) := by
  have HH := Lib.hid h; clear h
  have hn := hv.1
  have HV := Lib.hid hv; clear hv
  have hnn : n * n ≤ 512 * 512 := Nat.mul_le_mul hn hn
  have b0 : Below w.heap.size w (w.alloc (.cells #[.slice A n c] 24)) := (Below.refl _ _).alloc (Nat.le_refl _) _
  have r0 := relAt_new w A n c
  have c0 := r0.c0
  go_enter Tryd.func16, Tryd.ntmps16
  go_wp2_with fail
  refine (rvalid_yes A n c R _ (HH.out.below b0) HV.out).mono ?_; rintro e w2 ⟨rfl, b2⟩
  have r2 := r0.below b2
  have B2 := below_next b0 b2
  clear r0 b0 c0 b2
  have c0 := r2.c0
  go_wp2_with fail
  clear c0
  go_loopw [4, 5, 6, 8, 15] (fun x _ _ _ i wr => ∃ (K : Nat) (v : Value), K ≤ n ∧ i = .int .i64 K ∧ v = x ∧ wr.ownsRow (w.heap.size + 1) 38 2 v (pairsL (mat R) n K).length (pvals (pairsL (mat R) n K)) ∧ RelAt wr w.heap.size A n c ∧ Below w.heap.size w wr) (fun _ _ _ _ i _ => n - (intOf i).toNat)
  case atStart => exact ⟨0, _, by omega, rfl, rfl, World.ownsRow_nil _ _ _ _, r2, B2⟩
  case round =>
    clear r2 B2
    obtain ⟨K, v, hK, rfl, rfl, hown, hr, hB⟩ := hrel
    by_cases hlt : K < n
    · obtain ⟨b, off, rfl, hbl, hcz⟩ := (HH.out.below hB) (by omega)
      obtain ⟨x0, x1, x2⟩ := hcz K hlt
      have X2 := Lib.hid x2; clear x2 hcz hbl
      have hrow := members_row n (R K)
      have HRow : Hid (∀ w', Wds w' (R K).A (R K).l (R K).f → Tab w' → Calls Tryd.prog 48 #[.agg #[.int .i64 (R K).N, .slice (R K).A (R K).l (R K).c]] w' (RowOut w' (rowL (mat R) n K))) := fun w' h1 h2 => hrow w' h1 (HV.out.2 K hlt) h2
      clear hrow
      have hstep : Hid (pairsL (mat R) n (K + 1) = pairsL (mat R) n K ++ (rowL (mat R) n K).map fun j => (K, j)) := rfl
      have hlen := pairsL_len (mat R) n K
      have hlen2 : K * n ≤ n * n := Nat.mul_le_mul_right n (by omega)
      have hlr := rowL_len (mat R) n K
      have hmul : (pairsL (mat R) n K).length + n ≤ 1000000 := by omega
      clear hlen hlen2
      generalize pairsL (mat R) n K = P at *
      generalize rowL (mat R) n K = L at *
      go_wp2_with fail
      have bA : Below wr.heap.size wr (wr.alloc (.cells #[.int .i64 (R K).N, .slice (R K).A (R K).l (R K).c] 63)) := (Below.refl _ _).alloc (Nat.le_refl _) _
      refine (HRow.out _ (X2.out.below bA) (hT.below (below_next hB bA))).mono ?_; rintro e w3 ⟨vL, rfl, hownL, b3⟩
      have B3 := below_next hB (below_next bA b3)
      have hr3 := (hr.below bA).below b3
      have hown3 := own_below (own_below hown bA) b3
      have hszL : w.heap.size + 1 ≤ wr.heap.size + 1 := by have := hr.lt; omega
      replace hownL := own_mono (base' := w.heap.size + 1) hownL (by simp; omega)
      clear hown hB hr bA b3 hszL
      obtain ⟨AL, cL, rfl, _, hL2⟩ := own_ints hownL
      go_wp2_with fail
      go_loopw [4, 8, 23] (fun x _ i wr => ∃ (D : Nat) (v : Value), D ≤ L.length ∧ i = .int .i64 D ∧ v = x ∧ wr.ownsRow (w.heap.size + 1) 38 2 v (P ++ (L.take D).map fun j => (K, j)).length (pvals (P ++ (L.take D).map fun j => (K, j))) ∧ wr.ownsRow (w.heap.size + 1) 3 1 (.slice AL L.length cL) L.length (vals L) ∧ RelAt wr w.heap.size (some ⟨b, off, none⟩) n c ∧ Below w.heap.size w wr) (fun _ _ i _ => L.length - (intOf i).toNat)
      case atStart => exact ⟨0, v, by omega, rfl, rfl, by simpa using hown3, hownL, hr3, B3⟩
      case round =>
        clear hown3 hownL hr3 B3 x0 x1
        obtain ⟨D, v, hD, rfl, rfl, hown, hownL, hr, hB⟩ := hrel
        by_cases hlt2 : D < L.length
        · obtain ⟨AL', cL', heq, hI, _⟩ := own_ints hownL
          injection heq with e1 _ e2
          subst e1 e2
          obtain ⟨bI, oI, rfl, _, hcI⟩ := hI (by omega)
          have y := hcI D hlt2
          clear hcI hI
          have hg : gets L D = ((L[D] : Nat) : Int) := by unfold gets; rw [List.getD_eq_getElem?_getD, List.getElem?_eq_getElem hlt2]; rfl
          rw [hg] at y
          clear hg
          have hlP : (P ++ (L.take D).map fun j => (K, j)).length ≤ 1000000 := by rw [List.length_append, List.length_map, List.length_take]; omega
          have hbase : w.heap.size + 1 ≤ wr.heap.size := by have := hr.lt; omega
          have htk : Hid ((P ++ (L.take D).map fun j => (K, j)) ++ [(K, L[D])] = P ++ (L.take (D + 1)).map fun j => (K, j)) := by
            show _ = _
            rw [List.take_succ_eq_append_getElem hlt2, List.map_append, List.append_assoc]; rfl
          generalize L[D] = j at *
          generalize (P ++ (L.take D).map fun j => (K, j)) = P2 at *
          go_wp2_with (at_builtin; refine append_pair rfl (.tmp 27) (.tmp 31) rfl (w.heap.size + 1) v P2 K j K j wr rfl hown rfl hlP hbase rfl rfl ?_)
          intro v' w5 hown5 hg5
          have bP : Below wr.heap.size wr (wr.alloc (.cells #[.int .i64 (K : Int), .int .i64 (j : Int)] 38)) := (Below.refl _ _).alloc (Nat.le_refl _) _
          have hownA := own_below hown bP
          have B5 := grown_below2 (below_next hB bP) hownA (by omega) hg5
          have hownL5 := (own_below hownL bP).kept hg5 (own_apart (own_below hownL bP) hownA (by decide))
          have hr5 : RelAt w5 w.heap.size (some ⟨b, off, none⟩) n c := (hg5.block _ (by have := (hr.below bP).lt; exact this) (fun e => by have := (hownA.lt _ e.symm).1; omega)).trans (hr.below bP)
          go_wp2_with fail
          go_roundw
          case rel => exact ⟨D + 1, v', by omega, by go_num, rfl, by rw [← htk.out, List.length_append]; exact hown5, hownL5, hr5, B5⟩
          case measure => simp [intOf]; omega
        · obtain rfl : D = L.length := by omega
          have htk : P ++ (L.take L.length).map (fun j => (K, j)) = P ++ L.map fun j => (K, j) := by rw [List.take_length]
          rw [htk, ← hstep.out] at hown
          clear htk
          go_wp2_with fail
          go_roundw
          case rel => exact ⟨K + 1, v, by omega, by go_num, rfl, hown, hr, hB⟩
          case measure => simp [intOf]; omega
    · obtain rfl : K = n := by omega
      go_wp2_with fail
      go_ret2
      exact ⟨v, rfl, own_mono hown (by omega), hB⟩
end Go.Proofs.YtfjikeejifhnbaaDoor
