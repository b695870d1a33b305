/- A queue of numbers whose head moves on: a slice into the caller's own block, from an offset on. -/
import Derived.Test.YtjdceafkcakbjaaFCut
import Derived.ArgAppend
namespace Go.Proofs.Ytjdceafkcakbjaa
open Go.RowKit
def QAt (w : World) (base g : Nat) (v : Value) (l : List Nat) : Prop :=
  ∃ o cap S F, v = .slice (some ⟨g, o, none⟩) l.length cap ∧ base ≤ g ∧ w.rowIs g 3 S F ∧ l.length ≤ cap ∧ o + cap ≤ S ∧ ∀ k (hk : k < l.length), F (o + k) = .int .i64 (l[k] : Nat)
theorem QAt.lt {w : World} {base g : Nat} {v : Value} {l : List Nat} (h : QAt w base g v l) : base ≤ g ∧ g < w.heap.size := by
  obtain ⟨o, cap, S, F, _, hb, hr, _⟩ := h
  exact ⟨hb, hr.lt⟩
theorem QAt.of_block {w w' : World} {base g : Nat} {v : Value} {l : List Nat} (h : QAt w base g v l) (e : w'.heap[g]? = w.heap[g]?) : QAt w' base g v l := by
  obtain ⟨o, cap, S, F, hv, hb, hr, h1, h2, h3⟩ := h
  exact ⟨o, cap, S, F, hv, hb, hr.of_block e, h1, h2, h3⟩
theorem QAt.below {w w' : World} {base g : Nat} {v : Value} {l : List Nat} (h : QAt w base g v l) (hb : Below w.heap.size w w') : QAt w' base g v l := h.of_block (hb.block g h.lt.2)
theorem QAt.head {w : World} {base g c : Nat} {v : Value} {l : List Nat} (h : QAt w base g v (c :: l)) : ∃ o cap, v = .slice (some ⟨g, o, none⟩) (l.length + 1) (cap + 1) ∧ w.cell? ⟨g, o, none⟩ = some (.int .i64 (c : Nat)) ∧ ∀ o', (o' = o + 1 ∨ (cap = 0 ∧ o' = o)) → QAt w base g (.slice (some ⟨g, o', none⟩) l.length cap) l := by
  obtain ⟨o, cap, S, F, rfl, hb, hr, h1, h2, h3⟩ := h
  simp only [List.length_cons] at h1 h3 ⊢
  obtain ⟨cap, rfl⟩ : ∃ k, cap = k + 1 := ⟨cap - 1, by omega⟩
  refine ⟨o, cap, rfl, ?_, fun o' ho => ?_⟩
  · rw [hr.cell (i := o) (by omega)]
    have := h3 0 (by omega)
    simpa using this
  · rcases ho with rfl | hc
    · refine ⟨o + 1, cap, S, F, rfl, hb, hr, by omega, by omega, fun k hk => ?_⟩
      have := h3 (k + 1) (by omega)
      rw [show o + 1 + k = o + (k + 1) by omega]
      simpa using this
    · obtain ⟨hc, rfl⟩ := hc
      have hl : l.length = 0 := by omega
      obtain rfl : l = [] := List.eq_nil_of_length_eq_zero hl
      subst hc
      exact ⟨o', 0, S, F, rfl, hb, hr, by simp, by omega, fun k hk => absurd hk (Nat.not_lt_zero _)⟩
theorem q_new (w : World) (s : Nat) : QAt (w.alloc (.cells #[.int .i64 (s : Int)] 3)) w.heap.size w.heap.size (.slice (some ⟨w.heap.size, 0, none⟩) 1 1) [s] :=
  ⟨0, 1, 1, fun _ => .int .i64 (s : Int), rfl, Nat.le_refl _, ⟨_, heap_alloc_new w _, rfl, fun i hi => by
    obtain rfl : i = 0 := by omega
    rfl⟩, by simp, by omega, fun k hk => by
    obtain rfl : k = 0 := by simpa using hk
    rfl⟩
theorem append_q {ops : Array Oper} {rest : List Oper} {o : Oper} {a : Act} {Q : Exit → Act → World → Prop} (hgd : o.guard = none) (s x : Operand)
    (ho : o.op = .call { callee := .builtin .append, args := #[s, x], argTypes := #[25, 25] }) (base g : Nat) (v : Value) (l : List Nat) (i : Nat) (I : Int) (w : World) (hs : a.eval s = v)
    (hq : QAt w base g v l) (B : Nat) (hx : a.eval x = .slice (some ⟨B, 0, none⟩) 1 1) (hB : w.heap[B]? = some (.cells #[.int .i64 I] 3 (0, 0))) (hI : (i : Int) = I) (hl : l.length ≤ 1000000) (hbase : base ≤ w.heap.size)
    (h : ∀ g' v' w', QAt w' base g' v' (l ++ [i]) → (g' = g ∨ w.heap.size ≤ g') → Below base w w' → (∀ p, p ≠ g → p < w.heap.size → w'.heap[p]? = w.heap[p]?) → wpList Try.prog ops Q rest (a.put o.dst v') w') :
    wpList Try.prog ops Q (o :: rest) a w := by
  subst hI
  obtain ⟨of, cap, S, F, rfl, hb, hr, h1, h2, h3⟩ := hq
  obtain ⟨ti, hi, hz, hsz', hb'⟩ := info_parts Try.info3
  have hcur : ∀ j u, (vals l)[j]? = some u → w.cell? ⟨g, of + j, none⟩ = some u := fun j u hu => by
    have hj : j < l.length := by
      have := (List.getElem?_eq_some_iff.1 hu).1
      rw [vals_len] at this; exact this
    rw [hr.cell (i := of + j) (by omega), h3 j hj]
    unfold vals at hu
    rw [List.getElem?_map, List.getElem?_eq_getElem hj] at hu
    exact hu
  have hnew : ∀ j u, [Value.int .i64 (i : Int)][j]? = some u → w.cell? ((⟨B, 0, none⟩ : Addr).add j) = some u := fun j u hu => by
    have hj : j = 0 := by
      have := (List.getElem?_eq_some_iff.1 hu).1
      simpa using this
    subst hj
    rw [add_nil]
    exact (cell_of_row _ _ 0 _ _ _ hB).trans hu
  refine wpList_append_arg w hgd s x 25 ho 3 ti _ 1 8 Try.underlying25 hi hz hsz' hb' rfl (by decide) g of l.length cap (vals l) hs (by rw [vals_len]; omega) hcur ⟨B, 0, none⟩ 1 1 [.int .i64 (i : Int)] hx rfl hnew (fun u hu => by simp at hu; subst hu; rfl)
    (fun hroom j hj => by
      obtain rfl : j = 0 := by simpa using hj
      exact ⟨by rw [hr.cell (i := of + l.length * 1 + 0) (by omega)]; rfl, hr.frozen _⟩) (by unfold maxLen; omega) (by omega) (fun hroom => ?_) (fun hg v' w' hown hgr => ?_)
  · have e : w.setCells g (of + l.length * 1) [.int .i64 (i : Int)] = w.setCell ⟨g, of + l.length, none⟩ (.int .i64 (i : Int)) := by simp [World.setCells]
    rw [e]
    have hr2 := hr.set (of + l.length) (.int .i64 (i : Int))
    refine h g _ _ ⟨of, cap, S, _, by simp, hb, hr2, by simpa using hroom, h2, fun k hk => ?_⟩ (Or.inl rfl) ((Below.refl _ _).setCell (by exact hb) _) (fun p hp _ => Below.heap_setCell w _ _ p (by exact hp))
    by_cases e : k = l.length
    · subst e; simp
    · have hk' : k < l.length := by simp at hk; omega
      rw [List.getElem_append_left hk']
      show (if of + k = of + l.length then _ else F (of + k)) = _
      rw [if_neg (by omega)]; exact h3 k hk'
  · rw [← vals_snoc] at hown
    obtain ⟨g', cap', rfl, hge, hlt⟩ := hown.form (by omega)
    obtain ⟨hlen, hx' | ⟨g2, c2, cur, hv2, hb2, hc2, hn2, _, hs2, ht2⟩⟩ := hown
    · exact absurd hx'.2 (by omega)
    · injection hv2 with e1 _ e2
      injection e1 with e1
      injection e1 with e1 _ _
      subst e1 e2
      refine h g' _ w' ⟨0, cap', cur.size, fun k => cur.getD k undef, by simp, by omega, ⟨cur, hc2, rfl, fun k hk => by simp [hk]⟩, by simpa using hn2, by omega, fun k hk => ?_⟩ (Or.inr hb2) ((Below.refl _ _).grown hgr hbase (fun k hk => by cases hk)) (fun p _ hp => hgr.block p hp (by simp))
      have h4 : (cur.toList.take ((l.length + 1) * 1))[k]? = (vals (l ++ [i]))[k]? := by rw [ht2]
      have hk2 : k < l.length + 1 := by simpa using hk
      rw [List.getElem?_take_of_lt (by omega)] at h4
      unfold vals at h4
      rw [List.getElem?_map, List.getElem?_eq_getElem hk] at h4
      have h5 : cur[k]? = some (.int .i64 ((l ++ [i])[k] : Nat)) := by simpa using h4
      show cur.getD (0 + k) undef = _
      rw [Nat.zero_add, Array.getD_eq_getD_getElem?, h5]; rfl
end Go.Proofs.Ytjdceafkcakbjaa
