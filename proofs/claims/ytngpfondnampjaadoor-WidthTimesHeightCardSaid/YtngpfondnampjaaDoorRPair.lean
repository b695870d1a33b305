/- Pairs of relation as values; a list that grows. -/
import Derived.Test.YtngpfondnampjaaDoorRVal
namespace Go.Proofs.YtngpfondnampjaaDoor
open Go.RowKit
/- a list of pairs as values -/
def pvals (l : List (Nat × Nat)) : List Value := l.flatMap fun p => [.int .i64 (p.1 : Nat), .int .i64 (p.2 : Nat)]
theorem pvals_len (l : List (Nat × Nat)) : (pvals l).length = l.length * 2 := by
  induction l with
  | nil => rfl
  | cons x l ih =>
    have : pvals (x :: l) = [.int .i64 (x.1 : Nat), .int .i64 (x.2 : Nat)] ++ pvals l := rfl
    rw [this, List.length_append, ih, List.length_cons]; simp; omega
theorem pvals_snoc (l : List (Nat × Nat)) (i j : Nat) : pvals (l ++ [(i, j)]) = pvals l ++ [.int .i64 (i : Nat), .int .i64 (j : Nat)] := by
  unfold pvals
  rw [List.flatMap_append]; rfl
/- own rows of different types lie apart -/
theorem own_apart {w : World} {base base' : Nat} {e e' : TypeId} {size size' : Nat} {v v' : Value} {n n' : Nat} {xs xs' : List Value} (h : w.ownsRow base e size v n xs) (h' : w.ownsRow base' e' size' v' n' xs') (hne : e ≠ e') : v.ownBlock = none ∨ v.ownBlock ≠ v'.ownBlock := by
  rcases h.2 with ⟨rfl, _⟩ | ⟨g, cap, cur, rfl, _, hg, _⟩
  · exact Or.inl rfl
  · right
    rcases h'.2 with ⟨rfl, _⟩ | ⟨g', cap', cur', rfl, _, hg', _⟩
    · simp [Value.ownBlock]
    · intro he
      have he' : g = g' := by simpa [Value.ownBlock] using he
      subst he'
      rw [hg] at hg'
      injection hg' with h1
      injection h1 with _ h2
      exact hne h2
theorem grown_below2 {w wr w1 : World} {base : Nat} {e : TypeId} {size : Nat} {v : Value} {n : Nat} {xs : List Value} (h : Below w.heap.size w wr) (hown : wr.ownsRow base e size v n xs) (hb : w.heap.size ≤ base) (hg : wr.grownBy w1 v.ownBlock) : Below w.heap.size w w1 :=
  h.grown hg h.size (fun k hk => Nat.le_trans hb (hown.lt k hk).1)
/- append of one pair -/
theorem append_pair {ops : Array Oper} {rest : List Oper} {o : Oper} {a : Act} {Q : Exit → Act → World → Prop} (hgd : o.guard = none) (s x : Operand)
    (ho : o.op = .call { callee := .builtin .append, args := #[s, x], argTypes := #[72, 72] }) (base : Nat) (v : Value) (l : List (Nat × Nat)) (i j : Nat) (I J : Int) (w : World) (hs : a.eval s = v)
    (hown : w.ownsRow base 78 2 v l.length (pvals l)) (hx : a.eval x = .slice (some ⟨w.heap.size, 0, none⟩) 1 1) (hl : l.length ≤ 1000000) (hbase : base ≤ w.heap.size) (hI : (i : Int) = I) (hJ : (j : Int) = J)
    (h : ∀ v' w', w'.ownsRow base 78 2 v' (l ++ [(i, j)]).length (pvals (l ++ [(i, j)])) → (w.alloc (.cells #[.int .i64 I, .int .i64 J] 78)).grownBy w' v.ownBlock → wpList Tryd.prog ops Q rest (a.put o.dst v') w') :
    wpList Tryd.prog ops Q (o :: rest) a (w.alloc (.cells #[.int .i64 I, .int .i64 J] 78)) := by
  subst hI hJ
  refine append_one_at hgd s x 72 78 ho 2 16 _ Tryd.underlying72 Tryd.info78 rfl (by decide) (by decide) base v l.length (pvals l) hs (hown.alloc _) w.heap.size #[.int .i64 (i : Int), .int .i64 (j : Int)] hx (heap_alloc_new w _) rfl ?_ hl (by simp; omega) (fun g cap w' h1 h2 _ _ => h _ w' ?_ h2)
  · intro u hu
    simp at hu
    rcases hu with rfl | rfl <;> rfl
  · rw [pvals_snoc, List.length_append]; exact h1
def PairsOk (w : World) (l : List (Nat × Nat)) (e : Ending) (w' : World) : Prop := ∃ v, e = .returned (.tuple #[v, .int .i64 0]) ∧ w'.ownsRow w.heap.size 78 2 v l.length (pvals l) ∧ Below w.heap.size w w'
def PairsErr (w : World) (er : Int) (e : Ending) (w' : World) : Prop := e = .returned (.tuple #[.slice none 0 0, .int .i64 er]) ∧ Below w.heap.size w w'
end Go.Proofs.YtngpfondnampjaaDoor
