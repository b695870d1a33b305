/- The contracts of pairs, and of setOf. -/
import Derived.Test.YtmafnncpdccfdaaMMax
namespace Go.Proofs.Ytmafnncpdccfdaa
open Go.RowKit
theorem append_one_at {ops : Array Oper} {rest : List Oper} {o : Oper} {a : Act} {Q : Exit → Act → World → Prop} {w : World} (hgd : o.guard = none) (s x : Operand) (t e : TypeId)
    (ho : o.op = .call { callee := .builtin .append, args := #[s, x], argTypes := #[t, t] }) (size bytes : Nat) (z : Value) (hu : Try.prog.underlying t = some (.slice e))
    (hinfo : (Try.prog.info? e).map (fun i => (i.zero, i.size, i.bytes)) = some (some z, size, bytes)) (hzs : z.cells.size = size) (hsz : 0 < size) (hby : bytes ≤ 64)
    (base : Nat) (v : Value) (n : Nat) (xs : List Value) (hs : a.eval s = v) (hown : w.ownsRow base e size v n xs) (B : Nat) (cs : Array Value) (hx : a.eval x = .slice (some ⟨B, 0, none⟩) 1 1)
    (hB : w.heap[B]? = some (.cells cs e (0, 0))) (hcs : cs.size = size) (h1 : ∀ u ∈ cs.toList, u.oneCell' = true) (hn : n ≤ 1000000) (hbase : base ≤ w.heap.size)
    (h : ∀ g cap w', w'.ownsRow base e size (.slice (some ⟨g, 0, none⟩) (n + 1) cap) (n + 1) (xs ++ cs.toList) → w.grownBy w' v.ownBlock → (v.ownBlock = some g ∨ g = w.heap.size) → g < w'.heap.size → wpList Try.prog ops Q rest (a.put o.dst (.slice (some ⟨g, 0, none⟩) (n + 1) cap)) w') :
    wpList Try.prog ops Q (o :: rest) a w := by
  obtain ⟨i, hi, hz, hsz', hb'⟩ := info_parts hinfo
  have hbb : (n + 1) * bytes ≤ 1000001 * 64 := Nat.mul_le_mul (by omega) hby
  refine wpList_append_lies w hgd s x t ho base e i z size bytes hu hi hz hsz' hb' hzs hsz v n xs hs hown ⟨B, 0, none⟩ 1 1 cs.toList hx (by simpa using hcs) ?_ h1 (by decide) (by unfold maxLen; omega) (by omega) hbase w.heap.size rfl h
  intro j u hu'
  have hadd : (⟨B, 0, none⟩ : Addr).add j = ⟨B, j, none⟩ := by unfold Addr.add; split <;> simp_all
  rw [hadd, cell_of_row _ _ j _ _ _ hB]
  simpa using hu'

theorem Try.info47 : (Try.prog.info? 47).map (fun i => (i.zero, i.size, i.bytes)) = some (some (.agg #[.int .i64 0, .int .i64 0]), 2, 16) := by kernel_rfl
def pvals (l : List (Int × Int)) : List Value := l.flatMap fun p => [.int .i64 p.1, .int .i64 p.2]
theorem pvals_snoc (l : List (Int × Int)) (p : Int × Int) : pvals (l ++ [p]) = pvals l ++ [.int .i64 p.1, .int .i64 p.2] := by
  unfold pvals
  rw [List.flatMap_append]; rfl
theorem pvals_get {l : List (Int × Int)} : ∀ {k : Nat} {p : Int × Int}, l[k]? = some p → (pvals l)[k * 2]? = some (.int .i64 p.1) ∧ (pvals l)[k * 2 + 1]? = some (.int .i64 p.2) := by
  induction l with
  | nil => intro k p h; simp at h
  | cons x l ih =>
    intro k p h
    have hc : pvals (x :: l) = .int .i64 x.1 :: .int .i64 x.2 :: pvals l := rfl
    match k with
    | 0 =>
      have : x = p := by simpa using h
      subst this
      exact ⟨rfl, rfl⟩
    | k + 1 =>
      have h' : l[k]? = some p := by simpa using h
      obtain ⟨h1, h2⟩ := ih h'
      rw [hc, show (k + 1) * 2 = k * 2 + 1 + 1 by omega, List.getElem?_cons_succ, List.getElem?_cons_succ, List.getElem?_cons_succ, List.getElem?_cons_succ]
      exact ⟨h1, h2⟩
def pE (l : List (Int × Int)) : Nat → Int × Int := fun k => l.getD k (0, 0)
theorem pE_get {l : List (Int × Int)} {k : Nat} (hk : k < l.length) : pE l k = l[k] := by unfold pE; rw [List.getD_eq_getElem?_getD, List.getElem?_eq_getElem hk]; rfl
theorem own_prs {w : World} {base : Nat} {v : Value} {l : List (Int × Int)} (h : w.ownsRow base 47 2 v l.length (pvals l)) : ∃ A c, v = .slice A l.length c ∧ Prs w A l.length (pE l) := by
  rcases h.2 with ⟨rfl, hn⟩ | ⟨g, cap, cur, rfl, hb, hg, hnc, hcm, hcs, ht⟩
  · exact ⟨none, 0, by rw [hn], fun h0 => absurd h0 (by omega)⟩
  · refine ⟨_, _, rfl, fun h0 => ⟨g, 0, rfl, lt_of_block hg, fun k hk => ?_⟩⟩
    obtain ⟨h1, h2⟩ := pvals_get (List.getElem?_eq_getElem hk)
    rw [pE_get hk, Nat.zero_add]
    exact ⟨(h.cellAt (k * 2) (by omega)).trans h1, (h.cellAt (k * 2 + 1) (by omega)).trans h2⟩
theorem append_pair {ops : Array Oper} {rest : List Oper} {o : Oper} {a : Act} {Q : Exit → Act → World → Prop} (hgd : o.guard = none) (s x : Operand)
    (ho : o.op = .call { callee := .builtin .append, args := #[s, x], argTypes := #[22, 22] }) (base : Nat) (v : Value) (l : List (Int × Int)) (f t : Int) (w : World) (hs : a.eval s = v)
    (hown : w.ownsRow base 47 2 v l.length (pvals l)) (B : Nat) (hx : a.eval x = .slice (some ⟨B, 0, none⟩) 1 1) (hB : w.heap[B]? = some (.cells #[.int .i64 f, .int .i64 t] 47 (0, 0))) (hl : l.length ≤ 1000000) (hbase : base ≤ w.heap.size)
    (h : ∀ v' w', w'.ownsRow base 47 2 v' (l.length + 1) (pvals (l ++ [(f, t)])) → w.grownBy w' v.ownBlock → wpList Try.prog ops Q rest (a.put o.dst v') w') :
    wpList Try.prog ops Q (o :: rest) a w := by
  refine append_one_at hgd s x 22 47 ho 2 16 _ Try.underlying22 Try.info47 rfl (by decide) (by decide) base v l.length (pvals l) hs hown B #[.int .i64 f, .int .i64 t] hx hB rfl ?_ hl hbase (fun g cap w' h1 h2 _ _ => h _ w' ?_ h2)
  · intro u hu
    simp at hu
    rcases hu with rfl | rfl <;> rfl
  · rw [pvals_snoc]; exact h1
def prl (L : Nat → Int) : Nat → List (Int × Int)
  | 0 => []
  | K + 1 => prl L K ++ (if L K = -1 then [] else [((K : Int), L K)])
theorem prl_len (L : Nat → Int) : ∀ K, (prl L K).length ≤ K
  | 0 => Nat.le_refl _
  | K + 1 => by
    have := prl_len L K
    unfold prl
    rw [List.length_append]
    split <;> simp <;> omega
def PairsEnd (w : World) (l : List (Int × Int)) (e : Ending) (w' : World) : Prop :=
  ∃ v, e = .returned v ∧ w'.ownsRow (w.heap.size + 1) 47 2 v l.length (pvals l) ∧ Below w.heap.size w w'
theorem pairs_any (n m gL cN dN : Nat) (A B : Option Addr) (cB : Nat) (L : Nat → Int) (w : World) (h : w.rowIs gL 3 n (ivals L)) (hn : n ≤ 512) :
    Calls Try.prog 32 #[.agg #[.slice A cN dN, .slice (some ⟨gL, 0, none⟩) n n, .slice B m cB]] w (PairsEnd w (prl L n)) := by
  obtain ⟨o, ho⟩ : ∃ o, o = Obj.cells #[.slice A cN dN, .slice (some ⟨gL, 0, none⟩) n n, .slice B m cB] 55 := ⟨_, rfl⟩
  have e1 : (w.alloc o).heap[w.heap.size]? = some o := heap_alloc_new w o
  have b1 := below_new w o
  have s1 : (w.alloc o).heap.size = w.heap.size + 1 := by simp
  rw [ho] at e1 b1 s1
  clear ho
  have HL := Lib.hid h; clear h
  go_enter Try.func32, Try.ntmps32
  go_upto_region 1 with fail
  generalize w.alloc (.cells #[.slice A cN dN, .slice (some ⟨gL, 0, none⟩) n n, .slice B m cB] 55) = W at *
  have c1 : W.cell? ⟨w.heap.size, 1, none⟩ = some (.slice (some ⟨gL, 0, none⟩) n n) := cell_of_row _ _ 1 _ _ _ e1
  go_wp2_with fail
  clear c1 e1
  go_loopw [3, 9] (fun v i wr => ∃ K : Nat, K ≤ n ∧ i = .int .i64 K ∧ wr.ownsRow (w.heap.size + 1) 47 2 v (prl L K).length (pvals (prl L K)) ∧ Below w.heap.size w wr ∧ w.heap.size + 1 ≤ wr.heap.size) (fun _ i _ => n - (intOf i).toNat)
  case atStart => exact ⟨0, Nat.zero_le _, rfl, ⟨rfl, .inl ⟨rfl, rfl⟩⟩, b1, by omega⟩
  case round =>
    clear b1 s1
    obtain ⟨K, hK, rfl, hown, hB, hsz⟩ := hrel
    by_cases hlt : K < n
    · have x0 : wr.cell? ⟨gL, K, none⟩ = some (.int .i64 (L K)) := (row_below HL.out hB).cell hlt
      have hwrap : IntKind.i64.wrap ((K : Int) + 1) = (K : Int) + 1 := IntWalk.i64_in _ (by omega)
      have hll := prl_len L K
      by_cases hL : L K = -1
      · have hst : Hid (prl L (K + 1) = prl L K) := by show prl L K ++ _ = _; rw [if_pos hL, List.append_nil]
        rw [hL] at x0
        clear hL
        go_wp2_with fail
        go_roundw
        case rel => exact ⟨K + 1, hlt, by go_num, by rw [hst.out]; exact hown, hB, hsz⟩
        case measure => simp [intOf]; omega
      · have hst : Hid (prl L (K + 1) = prl L K ++ [((K : Int), L K)]) := by show prl L K ++ _ = _; rw [if_neg hL]
        have q1 : (L K != -1) = true := bne_iff_ne.2 hL
        generalize L K = y at *
        obtain ⟨l, hl⟩ : ∃ l, l = prl L K := ⟨_, rfl⟩
        rw [← hl] at hown hst hll
        clear hl hL
        have hownA := hown.alloc (.cells #[.int .i64 (K : Int), .int .i64 y] 47)
        go_wp2_with (at_builtin; refine append_pair rfl (.tmp 16) (.tmp 20) rfl (w.heap.size + 1) _ l K y _ rfl hownA wr.heap.size rfl (heap_alloc_new _ _) (by omega) (by simp; omega) ?_; intro v9 w9 hown9 hg9)
        go_roundw
        case rel => exact ⟨K + 1, hlt, by go_num, by rw [hst.out, List.length_append]; exact hown9, grown_below hB hown (by omega) hg9, Nat.le_trans hsz (Nat.le_trans (by simp) hg9.size)⟩
        case measure => simp [intOf]; omega
    · obtain rfl : K = n := by omega
      go_wp2_with fail
      go_ret
      exact ⟨_, rfl, hown, hB⟩
end Go.Proofs.Ytmafnncpdccfdaa
