/- Matching, ported: MPrs. -/
import Derived.Test.YtngpfondnampjaaDoorMMax
namespace Go.Proofs.YtngpfondnampjaaDoor
open Go.RowKit
def pvals5 (l : List (Int × Int)) : List Value := l.flatMap fun p => [.int .i64 p.1, .int .i64 p.2]
theorem pvals_snoc5 (l : List (Int × Int)) (p : Int × Int) : pvals5 (l ++ [p]) = pvals5 l ++ [.int .i64 p.1, .int .i64 p.2] := by
  unfold pvals5
  rw [List.flatMap_append]; rfl
theorem pvals_get5 {l : List (Int × Int)} : ∀ {k : Nat} {p : Int × Int}, l[k]? = some p → (pvals5 l)[k * 2]? = some (.int .i64 p.1) ∧ (pvals5 l)[k * 2 + 1]? = some (.int .i64 p.2) := by
  induction l with
  | nil => intro k p h; simp at h
  | cons x l ih =>
    intro k p h
    have hc : pvals5 (x :: l) = .int .i64 x.1 :: .int .i64 x.2 :: pvals5 l := rfl
    match k with
    | 0 =>
      have : x = p := by simpa using h
      subst this
      exact ⟨rfl, rfl⟩
    | k + 1 =>
      have h' : l[k]? = some p := by simpa using h
      obtain ⟨h1, h2⟩ := ih h'
      rw [hc, show (k + 1) * 2 = k * 2 + 1 + 1 by omega, List.getElem?_cons_succ, List.getElem?_cons_succ, List.getElem?_cons_succ, List.getElem?_cons_succ]
      exact ⟨h1, h2⟩
def pE (l : List (Int × Int)) : Nat → Int × Int := fun k => l.getD k (0, 0)
theorem pE_get {l : List (Int × Int)} {k : Nat} (hk : k < l.length) : pE l k = l[k] := by unfold pE; rw [List.getD_eq_getElem?_getD, List.getElem?_eq_getElem hk]; rfl
theorem own_prs5 {w : World} {base : Nat} {v : Value} {l : List (Int × Int)} (h : w.ownsRow base 78 2 v l.length (pvals5 l)) : ∃ A c, v = .slice A l.length c ∧ Prs w A l.length (pE l) := by
  rcases h.2 with ⟨rfl, hn⟩ | ⟨g, cap, cur, rfl, hb, hg, hnc, hcm, hcs, ht⟩
  · exact ⟨none, 0, by rw [hn], fun h0 => absurd h0 (by omega)⟩
  · refine ⟨_, _, rfl, fun h0 => ⟨g, 0, rfl, lt_of_block hg, fun k hk => ?_⟩⟩
    obtain ⟨h1, h2⟩ := pvals_get5 (List.getElem?_eq_getElem hk)
    rw [pE_get hk, Nat.zero_add]
    exact ⟨(h.cellAt (k * 2) (by omega)).trans h1, (h.cellAt (k * 2 + 1) (by omega)).trans h2⟩
theorem append_pair5 {ops : Array Oper} {rest : List Oper} {o : Oper} {a : Act} {Q : Exit → Act → World → Prop} (hgd : o.guard = none) (s x : Operand)
    (ho : o.op = .call { callee := .builtin .append, args := #[s, x], argTypes := #[72, 72] }) (base : Nat) (v : Value) (l : List (Int × Int)) (f t : Int) (w : World) (hs : a.eval s = v)
    (hown : w.ownsRow base 78 2 v l.length (pvals5 l)) (B : Nat) (hx : a.eval x = .slice (some ⟨B, 0, none⟩) 1 1) (hB : w.heap[B]? = some (.cells #[.int .i64 f, .int .i64 t] 78 (0, 0))) (hl : l.length ≤ 1000000) (hbase : base ≤ w.heap.size)
    (h : ∀ v' w', w'.ownsRow base 78 2 v' (l.length + 1) (pvals5 (l ++ [(f, t)])) → w.grownBy w' v.ownBlock → wpList Tryd.prog ops Q rest (a.put o.dst v') w') :
    wpList Tryd.prog ops Q (o :: rest) a w := by
  refine append_one_at hgd s x 72 78 ho 2 16 _ Tryd.underlying72 Tryd.info78 rfl (by decide) (by decide) base v l.length (pvals5 l) hs hown B #[.int .i64 f, .int .i64 t] hx hB rfl ?_ hl hbase (fun g cap w' h1 h2 _ _ => h _ w' ?_ h2)
  · intro u hu
    simp at hu
    rcases hu with rfl | rfl <;> rfl
  · rw [pvals_snoc5]; exact h1
def prl (L : Nat → Int) : Nat → List (Int × Int)
  | 0 => []
  | K + 1 => prl L K ++ (if L K = -1 then [] else [((K : Int), L K)])
theorem prl_len (L : Nat → Int) : ∀ K, (prl L K).length ≤ K
  | 0 => Nat.le_refl _
  | K + 1 => by
    have := prl_len L K
    unfold prl
    rw [List.length_append]
    split <;> simp <;> omega
def PairsEnd (w : World) (l : List (Int × Int)) (e : Ending) (w' : World) : Prop :=
  ∃ v, e = .returned v ∧ w'.ownsRow (w.heap.size + 1) 78 2 v l.length (pvals5 l) ∧ Below w.heap.size w w'
theorem pairs_any (n m gL cN dN : Nat) (A B : Option Addr) (cB : Nat) (L : Nat → Int) (w : World) (h : w.rowIs gL 3 n (ivals L)) (hn : n ≤ 512) :
    Calls Tryd.prog 89 #[.agg #[.slice A cN dN, .slice (some ⟨gL, 0, none⟩) n n, .slice B m cB]] w (PairsEnd w (prl L n)) := by
  obtain ⟨o, ho⟩ : ∃ o, o = Obj.cells #[.slice A cN dN, .slice (some ⟨gL, 0, none⟩) n n, .slice B m cB] 100 := ⟨_, rfl⟩
  have e1 : (w.alloc o).heap[w.heap.size]? = some o := heap_alloc_new w o
  have b1 := below_new w o
  have s1 : (w.alloc o).heap.size = w.heap.size + 1 := by simp
  rw [ho] at e1 b1 s1
  clear ho
  have HL := Lib.hid h; clear h
  go_enter Tryd.func89, Tryd.ntmps89
  go_upto_region 1 with fail
  generalize w.alloc (.cells #[.slice A cN dN, .slice (some ⟨gL, 0, none⟩) n n, .slice B m cB] 100) = W at *
  have c1 : W.cell? ⟨w.heap.size, 1, none⟩ = some (.slice (some ⟨gL, 0, none⟩) n n) := cell_of_row _ _ 1 _ _ _ e1
  go_wp2_with fail
  clear c1 e1
  go_loopw [3, 9] (fun v i wr => ∃ K : Nat, K ≤ n ∧ i = .int .i64 K ∧ wr.ownsRow (w.heap.size + 1) 78 2 v (prl L K).length (pvals5 (prl L K)) ∧ Below w.heap.size w wr ∧ w.heap.size + 1 ≤ wr.heap.size) (fun _ i _ => n - (intOf i).toNat)
  case atStart => exact ⟨0, Nat.zero_le _, rfl, ⟨rfl, .inl ⟨rfl, rfl⟩⟩, b1, by omega⟩
  case round =>
    clear b1 s1
    obtain ⟨K, hK, rfl, hown, hB, hsz⟩ := hrel
    by_cases hlt : K < n
    · have x0 : wr.cell? ⟨gL, K, none⟩ = some (.int .i64 (L K)) := (row_below HL.out hB).cell hlt
      have hwrap : IntKind.i64.wrap ((K : Int) + 1) = (K : Int) + 1 := IntWalk.i64_in _ (by omega)
      have hll := prl_len L K
      by_cases hL : L K = -1
      · have hst : Hid (prl L (K + 1) = prl L K) := by show prl L K ++ _ = _; rw [if_pos hL, List.append_nil]
        rw [hL] at x0
        clear hL
        go_wp2_with fail
        go_roundw
        case rel => exact ⟨K + 1, hlt, by go_num, by rw [hst.out]; exact hown, hB, hsz⟩
        case measure => simp [intOf]; omega
      · have hst : Hid (prl L (K + 1) = prl L K ++ [((K : Int), L K)]) := by show prl L K ++ _ = _; rw [if_neg hL]
        have q1 : (L K != -1) = true := bne_iff_ne.2 hL
        generalize L K = y at *
        obtain ⟨l, hl⟩ : ∃ l, l = prl L K := ⟨_, rfl⟩
        rw [← hl] at hown hst hll
        clear hl hL
        have hownA := hown.alloc (.cells #[.int .i64 (K : Int), .int .i64 y] 78)
        go_wp2_with (at_builtin; refine append_pair5 rfl (.tmp 16) (.tmp 20) rfl (w.heap.size + 1) _ l K y _ rfl hownA wr.heap.size rfl (heap_alloc_new _ _) (by omega) (by simp; omega) ?_; intro v9 w9 hown9 hg9)
        go_roundw
        case rel => exact ⟨K + 1, hlt, by go_num, by rw [hst.out, List.length_append]; exact hown9, grown_below hB hown (by omega) hg9, Nat.le_trans hsz (Nat.le_trans (by simp) hg9.size)⟩
        case measure => simp [intOf]; omega
    · obtain rfl : K = n := by omega
      go_wp2_with fail
      go_ret
      exact ⟨_, rfl, hown, hB⟩
end Go.Proofs.YtngpfondnampjaaDoor
