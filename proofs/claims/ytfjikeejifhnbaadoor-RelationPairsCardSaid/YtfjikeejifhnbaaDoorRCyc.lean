/- Plain mathematics of relations: steps, cycles. -/
import Derived.Test.YtfjikeejifhnbaaDoorROrd
namespace Go.Proofs.YtfjikeejifhnbaaDoor
/- k steps lead from i to s -/
def reach (T : Nat → Nat → Bool) (n s : Nat) : Nat → Nat → Bool
  | 0, i => i == s
  | k + 1, i => (List.range n).any fun j => T i j && reach T n s k j
theorem reach_succ {T : Nat → Nat → Bool} {n s k i : Nat} : reach T n s (k + 1) i = true ↔ ∃ j, j < n ∧ T i j = true ∧ reach T n s k j = true := by
  show (List.range n).any (fun j => T i j && reach T n s k j) = true ↔ _
  rw [List.any_eq_true]
  constructor
  · rintro ⟨j, hj, h⟩
    rw [Bool.and_eq_true] at h
    exact ⟨j, by simpa using hj, h.1, h.2⟩
  · rintro ⟨j, hj, h1, h2⟩
    exact ⟨j, by simpa using hj, by rw [h1, h2]; rfl⟩
theorem reach_zero {T : Nat → Nat → Bool} {n s i : Nat} : reach T n s 0 i = true ↔ i = s := by simp [reach]
theorem reach_one {T : Nat → Nat → Bool} {n s i : Nat} (hs : s < n) : reach T n s 1 i = true ↔ T i s = true := by
  rw [reach_succ]
  constructor
  · rintro ⟨j, _, h1, h2⟩; rw [reach_zero.1 h2] at h1; exact h1
  · intro h; exact ⟨s, hs, h, reach_zero.2 rfl⟩
theorem reach_clo {T : Nat → Nat → Bool} {n s : Nat} (hs : s < n) : ∀ k i, i < n → reach T n s (k + 1) i = true → clo n T i s = true
  | 0, i, _, h => clo_base ((reach_one hs).1 h)
  | k + 1, i, hi, h => by
    obtain ⟨j, hj, h1, h2⟩ := reach_succ.1 h
    exact clo_trans n T i j s hi hj hs (clo_base h1) (reach_clo hs k j hj h2)
theorem reach_trans {T : Nat → Nat → Bool} {n s m : Nat} : ∀ k i, reach T n m k i = true → ∀ l, reach T n s l m = true → reach T n s (k + l) i = true
  | 0, i, h, l, h2 => by rw [reach_zero.1 h, Nat.zero_add]; exact h2
  | k + 1, i, h, l, h2 => by
    obtain ⟨j, hj, h3, h4⟩ := reach_succ.1 h
    rw [show k + 1 + l = (k + l) + 1 by omega]
    exact reach_succ.2 ⟨j, hj, h3, reach_trans k j h4 l h2⟩
theorem clo_reach {T : Nat → Nat → Bool} {n s i : Nat} (hs : s < n) (hi : i < n) (h : clo n T i s = true) : ∃ k, reach T n s (k + 1) i = true := by
  have key : ∀ a b, a < n → b < n → clo n T a b = true → ∃ k, reach T n b (k + 1) a = true := by
    intro a b ha hb hab
    have := clo_least (n := n) (T := T) (S := fun a b => @decide (∃ k, reach T n b (k + 1) a = true) (Classical.propDecidable _)) (i := a) (j := b)
      (fun x y z _ _ _ h1 h2 => by
        obtain ⟨k, hk⟩ := @of_decide_eq_true _ (Classical.propDecidable _) h1
        obtain ⟨l, hl⟩ := @of_decide_eq_true _ (Classical.propDecidable _) h2
        have := reach_trans (k + 1) x hk (l + 1) hl
        exact @decide_eq_true _ (Classical.propDecidable _) ⟨k + 1 + l, this⟩)
      (fun x y _ hy hxy => @decide_eq_true _ (Classical.propDecidable _) ⟨0, (reach_one hy).2 hxy⟩) ha hb hab
    exact @of_decide_eq_true _ (Classical.propDecidable _) this
  exact key i s hi hs h
/- the fewest steps, at least one; 0: there is no path -/
def dist (T : Nat → Nat → Bool) (n s i : Nat) : Nat := match (List.range n).find? fun k => reach T n s (k + 1) i with
  | some k => k + 1
  | none => 0
theorem dist_is {T : Nat → Nat → Bool} {n s i v : Nat} (h1 : 1 ≤ v) (h2 : v ≤ n) (h3 : reach T n s v i = true) (h4 : ∀ k, 1 ≤ k → k < v → reach T n s k i = false) : dist T n s i = v := by
  have : (List.range n).find? (fun k => reach T n s (k + 1) i) = some (v - 1) := by
    rw [find_range_some]
    exact ⟨by omega, by rw [show v - 1 + 1 = v by omega]; exact h3, fun k hk => h4 (k + 1) (by omega) (by omega)⟩
  unfold dist
  rw [this]
  show v - 1 + 1 = v
  omega
theorem dist_none {T : Nat → Nat → Bool} {n s i : Nat} (h : ∀ k, 1 ≤ k → k ≤ n → reach T n s k i = false) : dist T n s i = 0 := by
  have : (List.range n).find? (fun k => reach T n s (k + 1) i) = none := by
    rw [find_range_none]; exact fun k hk => h (k + 1) (by omega) (by omega)
  unfold dist
  rw [this]
theorem dist_spec {T : Nat → Nat → Bool} {n s i : Nat} (h : dist T n s i ≠ 0) : dist T n s i ≤ n ∧ reach T n s (dist T n s i) i = true ∧ ∀ k, 1 ≤ k → k < dist T n s i → reach T n s k i = false := by
  cases hf : (List.range n).find? (fun k => reach T n s (k + 1) i) with
  | none => unfold dist at h; rw [hf] at h; exact absurd rfl h
  | some k =>
    have e : dist T n s i = k + 1 := by unfold dist; rw [hf]
    rw [e]
    obtain ⟨h1, h2, h3⟩ := find_range_some.1 hf
    refine ⟨by omega, h2, fun m hm1 hm2 => ?_⟩
    have := h3 (m - 1) (by omega)
    rw [show m - 1 + 1 = m by omega] at this; exact this
theorem dist_zero {T : Nat → Nat → Bool} {n s i k : Nat} (h : dist T n s i = 0) (h1 : 1 ≤ k) (h2 : k ≤ n) : reach T n s k i = false := by
  cases hf : (List.range n).find? (fun k => reach T n s (k + 1) i) with
  | none =>
    have := find_range_none.1 hf (k - 1) (by omega)
    rw [show k - 1 + 1 = k by omega] at this; exact this
  | some m => unfold dist at h; rw [hf] at h; cases h
/- a step nearer -/
theorem dist_step {T : Nat → Nat → Bool} {n s i v : Nat} (h : dist T n s i = v + 1) (hv : 1 ≤ v) : ∃ j, j < n ∧ T i j = true ∧ dist T n s j = v := by
  obtain ⟨h1, h2, h3⟩ := dist_spec (T := T) (n := n) (s := s) (i := i) (by omega)
  rw [h] at h1 h2 h3
  obtain ⟨j, hj, h4, h5⟩ := reach_succ.1 h2
  refine ⟨j, hj, h4, dist_is hv (by omega) h5 (fun k hk1 hk2 => ?_)⟩
  cases hr : reach T n s k j
  · rfl
  · have := h3 (k + 1) (by omega) (by omega)
    rw [reach_succ.2 ⟨j, hj, h4, hr⟩] at this; cases this
def nxt (T : Nat → Nat → Bool) (n : Nat) (d : Nat → Nat) (a v : Nat) : Nat := ((List.range n).find? fun j => T a j && d j == v).getD 0
theorem nxt_spec {T : Nat → Nat → Bool} {n : Nat} {d : Nat → Nat} {a v j : Nat} (hj : j < n) (h1 : T a j = true) (h2 : d j = v) :
    nxt T n d a v < n ∧ T a (nxt T n d a v) = true ∧ d (nxt T n d a v) = v ∧ ∀ k, k < nxt T n d a v → ¬ (T a k = true ∧ d k = v) := by
  cases hf : (List.range n).find? (fun j => T a j && d j == v) with
  | none =>
    have := find_range_none.1 hf j hj
    rw [h1, h2] at this; simp at this
  | some x =>
    have e : nxt T n d a v = x := by unfold nxt; rw [hf]; rfl
    rw [e]
    obtain ⟨g1, g2, g3⟩ := find_range_some.1 hf
    rw [Bool.and_eq_true, beq_iff_eq] at g2
    exact ⟨g1, g2.1, g2.2, fun k hk ⟨a1, a2⟩ => by have := g3 k hk; rw [a1, a2] at this; simp at this⟩
def pathL (T : Nat → Nat → Bool) (n : Nat) (d : Nat → Nat) : Nat → Nat → List Nat
  | 0, _ => []
  | v + 1, a => nxt T n d a (v + 1) :: pathL T n d v (nxt T n d a (v + 1))
def cycleFrom (T : Nat → Nat → Bool) (n s : Nat) : List Nat := s :: pathL T n (dist T n s) (dist T n s s - 1) s
def firstCyc (n : Nat) (T : Nat → Nat → Bool) : Option Nat := (List.range n).find? fun i => clo n T i i
theorem pathL_len (T : Nat → Nat → Bool) (n : Nat) (d : Nat → Nat) : ∀ v a, (pathL T n d v a).length = v
  | 0, _ => rfl
  | v + 1, a => by
    show (pathL T n d v _).length + 1 = v + 1
    rw [pathL_len T n d v]
/- the path goes down, a step at a time -/
theorem pathL_spec {T : Nat → Nat → Bool} {n s : Nat} : ∀ v a, dist T n s a = v + 1 → ∀ k x, (pathL T n (dist T n s) v a)[k]? = some x →
    x < n ∧ dist T n s x = v - k ∧ k < v ∧ (∀ y, (a :: pathL T n (dist T n s) v a)[k]? = some y → T y x = true)
  | 0, a, _, k, x, hx => by simp [pathL] at hx
  | v + 1, a, h, k, x, hx => by
    obtain ⟨j, hj, h1, h2⟩ := dist_step h (by omega)
    obtain ⟨n1, n2, n3, _⟩ := nxt_spec (d := dist T n s) hj h1 h2
    match k with
    | 0 =>
      have hx' : nxt T n (dist T n s) a (v + 1) = x := by simpa [pathL] using hx
      subst hx'
      exact ⟨n1, by rw [n3]; omega, by omega, fun y hy => by
        have : a = y := by simpa using hy
        rw [← this]; exact n2⟩
    | k + 1 =>
      have hx' : (pathL T n (dist T n s) v (nxt T n (dist T n s) a (v + 1)))[k]? = some x := by simpa [pathL] using hx
      obtain ⟨g1, g2, g3, g4⟩ := pathL_spec v _ n3 k x hx'
      exact ⟨g1, by rw [g2]; omega, by omega, fun y hy => g4 y (by simpa [pathL] using hy)⟩
/- what is kept while steps are counted from the end on: q are the numbers that were found, ks their numbers of steps, a of them have been looked at -/
structure Bfs (T : Nat → Nat → Bool) (n s a : Nat) (q : List Nat) (ks st : Nat → Nat) : Prop where
  q0 : q[0]? = some s
  k0 : ks 0 = 0
  lt : ∀ x, x ∈ q → x < n
  st_of : ∀ p x, 1 ≤ p → q[p]? = some x → st x = ks p ∧ 1 ≤ ks p
  isin : ∀ i, i < n → st i ≠ 0 → ∃ p, 1 ≤ p ∧ q[p]? = some i
  mono : ∀ p p', p ≤ p' → p' < q.length → ks p ≤ ks p'
  top : ∀ p, p < q.length → a < q.length → ks p ≤ ks a + 1
  rch : ∀ p x, 1 ≤ p → q[p]? = some x → reach T n s (ks p) x = true
  done : ∀ p x, p < a → q[p]? = some x → ∀ i, i < n → T i x = true → st i ≠ 0 ∧ st i ≤ ks p + 1
  keyle : ∀ p, p < q.length → ks p ≤ p
  len : q.length = 1 + ((List.range n).filter fun i => decide (st i ≠ 0)).length
theorem Bfs.len_le {T : Nat → Nat → Bool} {n s a : Nat} {q : List Nat} {ks st : Nat → Nat} (h : Bfs T n s a q ks st) : q.length ≤ n + 1 := by
  have := h.len
  have h2 := List.length_filter_le (fun i => decide (st i ≠ 0)) (List.range n)
  rw [List.length_range] at h2
  omega
theorem bfs_start {T : Nat → Nat → Bool} {n s : Nat} (hs : s < n) : Bfs T n s 0 [s] (fun _ => 0) (fun _ => 0) := by
  refine ⟨rfl, rfl, fun x hx => by rw [List.mem_singleton.1 hx]; exact hs, fun p x hp hq => ?_, fun i _ h => absurd rfl h, fun _ _ _ _ => Nat.le_refl _, fun _ _ _ => by omega, fun p x hp hq => ?_, fun p x hp => absurd hp (Nat.not_lt_zero _), fun _ _ => Nat.zero_le _, by simp⟩
  · have := (List.getElem?_eq_some_iff.1 hq).1; simp at this; omega
  · have := (List.getElem?_eq_some_iff.1 hq).1; simp at this; omega
/- a number is found -/
theorem Bfs.found {T : Nat → Nat → Bool} {n s a : Nat} {q : List Nat} {ks st : Nat → Nat} (h : Bfs T n s a q ks st) {c i : Nat} (ha : q[a]? = some c) (hi : i < n) (ht : T i c = true) (h0 : st i = 0) :
    Bfs T n s a (q ++ [i]) (fun p => if p = q.length then ks a + 1 else ks p) (fun x => if x = i then ks a + 1 else st x) := by
  have hal := (List.getElem?_eq_some_iff.1 ha).1
  have hlen1 : (q ++ [i]).length = q.length + 1 := by simp
  have at_old : ∀ {p x : Nat}, (q ++ [i])[p]? = some x → p ≠ q.length → q[p]? = some x := fun {p x} hp hne => by
    have := (List.getElem?_eq_some_iff.1 hp).1
    rw [hlen1] at this
    rw [List.getElem?_append_left (by omega)] at hp; exact hp
  have at_new : ∀ {x : Nat}, (q ++ [i])[q.length]? = some x → x = i := fun {x} hp => by simpa using hp.symm
  have old_ne : ∀ {p x : Nat}, 1 ≤ p → q[p]? = some x → x ≠ i := fun {p x} hp hq e => by
    obtain ⟨g1, g2⟩ := h.st_of p x hp hq
    rw [e, h0] at g1; omega
  refine ⟨?_, ?_, ?_, ?_, ?_, ?_, ?_, ?_, ?_, ?_, ?_⟩
  · rw [List.getElem?_append_left (by omega)]; exact h.q0
  · show (if 0 = q.length then _ else _) = 0
    rw [if_neg (by omega)]; exact h.k0
  · intro x hx
    rcases List.mem_append.1 hx with hx | hx
    · exact h.lt x hx
    · rw [List.mem_singleton.1 hx]; exact hi
  · intro p x hp hq
    by_cases e : p = q.length
    · subst e
      rw [at_new hq]
      show (if i = i then _ else _) = (if q.length = q.length then _ else _) ∧ 1 ≤ (if q.length = q.length then _ else _)
      rw [if_pos rfl, if_pos rfl]
      exact ⟨rfl, by omega⟩
    · have hq' := at_old hq e
      show (if x = i then _ else _) = (if p = q.length then _ else _) ∧ 1 ≤ (if p = q.length then _ else _)
      rw [if_neg (old_ne hp hq'), if_neg e]
      exact h.st_of p x hp hq'
  · intro x hx hne
    by_cases e : x = i
    · subst e
      exact ⟨q.length, by omega, by simp⟩
    · have hne' : st x ≠ 0 := by
        have : (if x = i then ks a + 1 else st x) ≠ 0 := hne
        rwa [if_neg e] at this
      obtain ⟨p, hp, hq⟩ := h.isin x hx hne'
      exact ⟨p, hp, by rw [List.getElem?_append_left ((List.getElem?_eq_some_iff.1 hq).1)]; exact hq⟩
  · intro p p' hpp hp'
    rw [hlen1] at hp'
    show (if p = q.length then _ else _) ≤ (if p' = q.length then _ else _)
    by_cases e' : p' = q.length
    · rw [if_pos e']
      by_cases e : p = q.length
      · rw [if_pos e]; exact Nat.le_refl _
      · rw [if_neg e]; exact h.top p (by omega) hal
    · rw [if_neg e', if_neg (by omega)]
      exact h.mono p p' hpp (by omega)
  · intro p hp _
    rw [hlen1] at hp
    show (if p = q.length then _ else _) ≤ (if a = q.length then _ else _) + 1
    rw [if_neg (show ¬ a = q.length by omega)]
    by_cases e : p = q.length
    · rw [if_pos e]; exact Nat.le_refl _
    · rw [if_neg e]; exact h.top p (by omega) hal
  · intro p x hp hq
    show reach T n s (if p = q.length then _ else _) x = true
    by_cases e : p = q.length
    · subst e
      rw [at_new hq, if_pos rfl]
      refine reach_succ.2 ⟨c, h.lt c (List.mem_iff_getElem?.2 ⟨a, ha⟩), ht, ?_⟩
      by_cases h00 : a = 0
      · subst h00
        rw [h.k0]
        have := h.q0
        rw [ha] at this
        rw [reach_zero]; exact Option.some.inj this
      · exact h.rch a c (by omega) ha
    · rw [if_neg e]
      exact h.rch p x hp (at_old hq e)
  · intro p x hp hq y hy hty
    have hpl : p < q.length := by omega
    rw [List.getElem?_append_left hpl] at hq
    obtain ⟨g1, g2⟩ := h.done p x hp hq y hy hty
    show (if y = i then _ else _) ≠ 0 ∧ (if y = i then _ else _) ≤ (if p = q.length then _ else _) + 1
    have hyi : ¬ y = i := fun e => by rw [e, h0] at g1; exact g1 rfl
    rw [if_neg hyi, if_neg (by omega)]
    exact ⟨g1, g2⟩
  · intro p hp
    rw [hlen1] at hp
    show (if p = q.length then _ else _) ≤ p
    by_cases e : p = q.length
    · rw [if_pos e]
      have := h.keyle a hal
      omega
    · rw [if_neg e]; exact h.keyle p (by omega)
  · rw [hlen1, h.len]
    have := filter_or_one (p := fun x => decide (st x ≠ 0)) (n := n) (j := i) hi (by simp [h0])
    have e : ((List.range n).filter fun x => decide ((if x = i then ks a + 1 else st x) ≠ 0)) = (List.range n).filter fun x => decide (st x ≠ 0) || decide (x = i) := by
      apply List.filter_congr
      intro x _
      by_cases e : x = i
      · subst e; simp
      · simp [e]
    rw [e, this]; omega
/- all that lead to the a-th have been found -/
theorem Bfs.next {T : Nat → Nat → Bool} {n s a : Nat} {q : List Nat} {ks st : Nat → Nat} (h : Bfs T n s a q ks st) {c : Nat} (ha : q[a]? = some c) (hall : ∀ i, i < n → T i c = true → st i ≠ 0 ∧ st i ≤ ks a + 1) : Bfs T n s (a + 1) q ks st := by
  have hal := (List.getElem?_eq_some_iff.1 ha).1
  refine ⟨h.q0, h.k0, h.lt, h.st_of, h.isin, h.mono, fun p hp h1 => ?_, h.rch, fun p x hp hq i hi ht => ?_, h.keyle, h.len⟩
  · have h2 := h.top p hp hal
    have h3 := h.mono a (a + 1) (by omega) h1
    omega
  · by_cases e : p = a
    · subst e
      rw [ha] at hq
      rw [← Option.some.inj hq] at ht
      exact hall i hi ht
    · exact h.done p x (by omega) hq i hi ht
theorem Bfs.steps {T : Nat → Nat → Bool} {n s a : Nat} {q : List Nat} {ks st : Nat → Nat} (h : Bfs T n s a q ks st) (hs : s < n) (ha : q.length ≤ a) : ∀ k i, i < n → reach T n s (k + 1) i = true → st i ≠ 0 ∧ st i ≤ k + 1
  | 0, i, hi, hr => by
    have hl : 0 < q.length := (List.getElem?_eq_some_iff.1 h.q0).1
    have := h.done 0 s (by omega) h.q0 i hi ((reach_one hs).1 hr)
    rw [h.k0] at this; exact this
  | k + 1, i, hi, hr => by
    obtain ⟨j, hj, h1, h2⟩ := reach_succ.1 hr
    obtain ⟨g1, g2⟩ := Bfs.steps h hs ha k j hj h2
    obtain ⟨p, hp, hq⟩ := h.isin j hj g1
    have hpl := (List.getElem?_eq_some_iff.1 hq).1
    obtain ⟨e1, _⟩ := h.st_of p j hp hq
    obtain ⟨d1, d2⟩ := h.done p j (by omega) hq i hi h1
    exact ⟨d1, by omega⟩
theorem Bfs.dist {T : Nat → Nat → Bool} {n s a : Nat} {q : List Nat} {ks st : Nat → Nat} (h : Bfs T n s a q ks st) (hs : s < n) (ha : q.length ≤ a) : ∀ i, i < n → st i = dist T n s i := by
  intro i hi
  by_cases h0 : st i = 0
  · rw [h0]
    refine (dist_none fun k hk1 _ => ?_).symm
    cases hr : reach T n s k i
    · rfl
    · have := h.steps hs ha (k - 1) i hi (by rw [show k - 1 + 1 = k by omega]; exact hr)
      exact absurd h0 this.1
  · obtain ⟨p, hp, hq⟩ := h.isin i hi h0
    obtain ⟨e1, e2⟩ := h.st_of p i hp hq
    have hpl := (List.getElem?_eq_some_iff.1 hq).1
    have hk := h.keyle p hpl
    have hl := h.len_le
    refine (dist_is (by omega) (by omega) (by rw [e1]; exact h.rch p i hp hq) (fun k hk1 hk2 => ?_)).symm
    cases hr : reach T n s k i
    · rfl
    · have := h.steps hs ha (k - 1) i hi (by rw [show k - 1 + 1 = k by omega]; exact hr)
      omega
theorem any_range {p : Nat → Bool} {n : Nat} : (List.range n).any p = true ↔ ∃ i, i < n ∧ p i = true := by
  rw [List.any_eq_true]
  constructor
  · rintro ⟨i, hi, h⟩; exact ⟨i, by simpa using hi, h⟩
  · rintro ⟨i, hi, h⟩; exact ⟨i, by simpa using hi, h⟩
theorem any_range_false {p : Nat → Bool} {n : Nat} : (List.range n).any p = false ↔ ∀ i, i < n → p i = false := by
  constructor
  · intro h i hi
    cases hp : p i
    · rfl
    · rw [any_range.2 ⟨i, hi, hp⟩] at h; cases h
  · intro h
    cases ha : (List.range n).any p
    · rfl
    · obtain ⟨i, hi, hp⟩ := any_range.1 ha
      rw [h i hi] at hp; cases hp
theorem count_ge {T : Nat → Nat → Bool} {n s : Nat} : ∀ v i, i < n → reach T n s v i = true → (∀ m, 1 ≤ m → m < v → reach T n s m i = false) → v ≤ ((List.range n).filter fun x => (List.range v).any fun m => reach T n s (m + 1) x).length
  | 0, _, _, _, _ => Nat.zero_le _
  | v + 1, i, hi, hr, hm => by
    have hin : ((List.range (v + 1)).any fun m => reach T n s (m + 1) i) = true := any_range.2 ⟨v, by omega, hr⟩
    have hout : ((List.range v).any fun m => reach T n s (m + 1) i) = false := any_range_false.2 fun m hmv => hm (m + 1) (by omega) (by omega)
    have hlt := filter_lt (n := n) (m := i) (p := fun x => (List.range (v + 1)).any fun m => reach T n s (m + 1) x) (q := fun x => (List.range v).any fun m => reach T n s (m + 1) x) hi hin hout (fun x _ hx => by
      obtain ⟨m, hm1, hm2⟩ := any_range.1 hx
      exact any_range.2 ⟨m, by omega, hm2⟩)
    by_cases h0 : v = 0
    · subst h0; omega
    · obtain ⟨j, hj, h1, h2⟩ := reach_succ.1 hr
      have := count_ge v j hj h2 (fun m hm1 hm2 => by
        cases hr2 : reach T n s m j
        · rfl
        · have := hm (m + 1) (by omega) (by omega)
          rw [reach_succ.2 ⟨j, hj, h1, hr2⟩] at this; cases this)
      omega
theorem dist_ne {T : Nat → Nat → Bool} {n s i k : Nat} (hi : i < n) (hk : 1 ≤ k) (h : reach T n s k i = true) : dist T n s i ≠ 0 := by
  obtain ⟨v, ⟨hv1, hv2⟩, hv3⟩ := min_exists id (fun v => 1 ≤ v ∧ reach T n s v i = true) k ⟨hk, h⟩
  have hmin : ∀ m, 1 ≤ m → m < v → reach T n s m i = false := fun m hm1 hm2 => by
    cases hr : reach T n s m i
    · rfl
    · have : v ≤ m := hv3 m ⟨hm1, hr⟩
      omega
  have hc := count_ge v i hi hv2 hmin
  have hl := List.length_filter_le (fun x => (List.range v).any fun m => reach T n s (m + 1) x) (List.range n)
  rw [List.length_range] at hl
  rw [dist_is hv1 (by omega) hv2 hmin]
  omega
theorem dist_pos {T : Nat → Nat → Bool} {n s i : Nat} (hs : s < n) (hi : i < n) (h : clo n T i s = true) : dist T n s i ≠ 0 := by
  obtain ⟨k, hk⟩ := clo_reach hs hi h
  exact dist_ne hi (by omega) hk
theorem dist_clo {T : Nat → Nat → Bool} {n s i : Nat} (hs : s < n) (hi : i < n) (h : dist T n s i ≠ 0) : clo n T i s = true := by
  obtain ⟨_, h2, _⟩ := dist_spec h
  have : dist T n s i = (dist T n s i - 1) + 1 := by omega
  rw [this] at h2
  exact reach_clo hs _ i hi h2
theorem reach_congr {T S : Nat → Nat → Bool} {n s : Nat} (h : ∀ i, i < n → ∀ j, j < n → T i j = S i j) : ∀ k i, i < n → reach T n s k i = reach S n s k i
  | 0, _, _ => rfl
  | k + 1, i, hi => by
    apply bool_ext
    rw [reach_succ, reach_succ]
    constructor
    · rintro ⟨j, hj, h1, h2⟩; exact ⟨j, hj, by rw [← h i hi j hj]; exact h1, by rw [← reach_congr h k j hj]; exact h2⟩
    · rintro ⟨j, hj, h1, h2⟩; exact ⟨j, hj, by rw [h i hi j hj]; exact h1, by rw [reach_congr h k j hj]; exact h2⟩
theorem find_congr {p q : Nat → Bool} {n : Nat} (h : ∀ i, i < n → p i = q i) : (List.range n).find? p = (List.range n).find? q := by
  cases hq : (List.range n).find? q with
  | none => rw [find_range_none] at hq ⊢; exact fun i hi => by rw [h i hi]; exact hq i hi
  | some x =>
    rw [find_range_some] at hq ⊢
    exact ⟨hq.1, by rw [h x hq.1]; exact hq.2.1, fun i hi => by rw [h i (by omega)]; exact hq.2.2 i hi⟩
theorem dist_congr {T S : Nat → Nat → Bool} {n s : Nat} (h : ∀ i, i < n → ∀ j, j < n → T i j = S i j) {i : Nat} (hi : i < n) : dist T n s i = dist S n s i := by
  unfold dist
  rw [find_congr (fun k _ => reach_congr h (k + 1) i hi)]
theorem nxt_congr {T S : Nat → Nat → Bool} {n : Nat} {d e : Nat → Nat} (h : ∀ i, i < n → ∀ j, j < n → T i j = S i j) (hd : ∀ i, i < n → d i = e i) {a : Nat} (ha : a < n) (v : Nat) : nxt T n d a v = nxt S n e a v := by
  unfold nxt
  rw [find_congr (fun j hj => by rw [h a ha j hj, hd j hj])]
theorem nxt_lt {T : Nat → Nat → Bool} {n : Nat} {d : Nat → Nat} {a v : Nat} (hn : 0 < n) : nxt T n d a v < n := by
  unfold nxt
  cases hf : (List.range n).find? fun j => T a j && d j == v with
  | none => exact hn
  | some x => exact (find_range_some.1 hf).1
theorem pathL_congr {T S : Nat → Nat → Bool} {n : Nat} {d e : Nat → Nat} (h : ∀ i, i < n → ∀ j, j < n → T i j = S i j) (hd : ∀ i, i < n → d i = e i) : ∀ v a, a < n → pathL T n d v a = pathL S n e v a
  | 0, _, _ => rfl
  | v + 1, a, ha => by
    show nxt T n d a (v + 1) :: pathL T n d v _ = nxt S n e a (v + 1) :: pathL S n e v _
    rw [nxt_congr h hd ha, pathL_congr h hd v _ (nxt_lt (by omega))]
theorem cycleFrom_congr {T S : Nat → Nat → Bool} {n s : Nat} (hs : s < n) (h : ∀ i, i < n → ∀ j, j < n → T i j = S i j) : cycleFrom T n s = cycleFrom S n s := by
  unfold cycleFrom
  rw [dist_congr h hs, pathL_congr h (fun i hi => dist_congr h hi) _ _ hs]
theorem firstCyc_congr {T S : Nat → Nat → Bool} {n : Nat} (h : ∀ i, i < n → ∀ j, j < n → T i j = S i j) : firstCyc n T = firstCyc n S := by
  unfold firstCyc
  exact find_congr (fun i hi => clo_congr h i hi i hi)
theorem firstCyc_none {T : Nat → Nat → Bool} {n : Nat} : firstCyc n T = none ↔ Acy n T := find_range_none
theorem firstCyc_some {T : Nat → Nat → Bool} {n s : Nat} : firstCyc n T = some s ↔ s < n ∧ clo n T s s = true ∧ ∀ i, i < s → clo n T i i = false := find_range_some
end Go.Proofs.YtfjikeejifhnbaaDoor
