/- Plain mathematics of relations on small numbers: pairs, composition, closure, orders. -/
import Derived.Test.YtngpfondnampjaaDoorMath
namespace Go.Proofs.YtngpfondnampjaaDoor
def rowL (T : Nat → Nat → Bool) (n i : Nat) : List Nat := (List.range n).filter (T i)
def pairsL (T : Nat → Nat → Bool) (n : Nat) : Nat → List (Nat × Nat)
  | 0 => []
  | K + 1 => pairsL T n K ++ (rowL T n K).map fun j => (K, j)
theorem mem_pairsL {T : Nat → Nat → Bool} {n K i j : Nat} : (i, j) ∈ pairsL T n K ↔ i < K ∧ j < n ∧ T i j = true := by
  induction K with
  | zero => simp [pairsL]
  | succ K ih =>
    unfold pairsL
    rw [List.mem_append, ih, List.mem_map]
    constructor
    · rintro (⟨h1, h2, h3⟩ | ⟨x, hx, he⟩)
      · exact ⟨by omega, h2, h3⟩
      · obtain ⟨rfl, rfl⟩ := Prod.mk.inj he
        have := List.mem_filter.1 hx
        exact ⟨by omega, by simpa using this.1, this.2⟩
    · rintro ⟨h1, h2, h3⟩
      by_cases e : i = K
      · subst e
        exact Or.inr ⟨j, List.mem_filter.2 ⟨by simpa using h2, h3⟩, rfl⟩
      · exact Or.inl ⟨by omega, h2, h3⟩
theorem rowL_len (T : Nat → Nat → Bool) (n i : Nat) : (rowL T n i).length ≤ n := by
  have := List.length_filter_le (T i) (List.range n)
  simpa [rowL] using this
theorem pairsL_len (T : Nat → Nat → Bool) (n K : Nat) : (pairsL T n K).length ≤ K * n := by
  induction K with
  | zero => simp [pairsL]
  | succ K ih =>
    unfold pairsL
    rw [List.length_append, List.length_map, Nat.succ_mul]
    have := rowL_len T n K
    omega
theorem pairsL_congr {T S : Nat → Nat → Bool} {n : Nat} : ∀ K, (∀ i, i < K → ∀ j, j < n → T i j = S i j) → pairsL T n K = pairsL S n K
  | 0, _ => rfl
  | K + 1, h => by
    unfold pairsL rowL
    rw [pairsL_congr K (fun i hi => h i (by omega))]
    congr 2
    apply List.filter_congr
    intro j hj
    exact h K (by omega) j (by simpa using hj)
/- composition -/
def comp (n : Nat) (A B : Nat → Nat → Bool) : Nat → Nat → Bool := fun i j => (List.range n).any fun k => A i k && B k j
theorem comp_iff {n : Nat} {A B : Nat → Nat → Bool} {i j : Nat} : comp n A B i j = true ↔ ∃ k, k < n ∧ A i k = true ∧ B k j = true := by
  unfold comp
  rw [List.any_eq_true]
  constructor
  · rintro ⟨k, hk, h⟩
    rw [Bool.and_eq_true] at h
    exact ⟨k, by simpa using hk, h.1, h.2⟩
  · rintro ⟨k, hk, h1, h2⟩
    exact ⟨k, by simpa using hk, by rw [h1, h2]; rfl⟩
theorem comp_rowL (n : Nat) (A B : Nat → Nat → Bool) (i j : Nat) : (rowL A n i).any (fun k => B k j) = comp n A B i j := by
  unfold rowL comp
  rw [List.any_filter]
theorem bool_ext {a b : Bool} (h : a = true ↔ b = true) : a = b := by cases a <;> cases b <;> simp_all
theorem comp_congr {n : Nat} {A A' B B' : Nat → Nat → Bool} (ha : ∀ i, i < n → ∀ j, j < n → A i j = A' i j) (hb : ∀ i, i < n → ∀ j, j < n → B i j = B' i j) :
    ∀ i, i < n → ∀ j, j < n → comp n A B i j = comp n A' B' i j := by
  intro i hi j hj
  apply bool_ext
  rw [comp_iff, comp_iff]
  constructor
  · rintro ⟨k, hk, h1, h2⟩; exact ⟨k, hk, by rw [← ha i hi k hk]; exact h1, by rw [← hb k hk j hj]; exact h2⟩
  · rintro ⟨k, hk, h1, h2⟩; exact ⟨k, hk, by rw [ha i hi k hk]; exact h1, by rw [hb k hk j hj]; exact h2⟩
theorem comp_assoc (n : Nat) (A B C : Nat → Nat → Bool) (i j : Nat) : comp n (comp n A B) C i j = comp n A (comp n B C) i j := by
  apply bool_ext
  rw [comp_iff, comp_iff]
  constructor
  · rintro ⟨k, hk, h1, h2⟩
    obtain ⟨l, hl, h3, h4⟩ := comp_iff.1 h1
    exact ⟨l, hl, h3, comp_iff.2 ⟨k, hk, h4, h2⟩⟩
  · rintro ⟨k, hk, h1, h2⟩
    obtain ⟨l, hl, h3, h4⟩ := comp_iff.1 h2
    exact ⟨l, hl, comp_iff.2 ⟨k, hk, h1, h3⟩, h4⟩
def inv (T : Nat → Nat → Bool) : Nat → Nat → Bool := fun i j => T j i
theorem comp_inv (n : Nat) (A B : Nat → Nat → Bool) (i j : Nat) : inv (comp n A B) i j = comp n (inv B) (inv A) i j := by
  apply bool_ext
  show comp n A B j i = true ↔ _
  rw [comp_iff, comp_iff]
  constructor
  · rintro ⟨k, hk, h1, h2⟩; exact ⟨k, hk, h2, h1⟩
  · rintro ⟨k, hk, h1, h2⟩; exact ⟨k, hk, h2, h1⟩
/- closure, one intermediate number after the other -/
def wstep (C : Nat → Nat → Bool) (k i : Nat) : Nat → Nat → Bool := fun a j => if a = i ∧ C i k = true then C i j || C k j else C a j
def winner (C : Nat → Nat → Bool) (k : Nat) : Nat → Nat → Nat → Bool
  | 0 => C
  | i + 1 => wstep (winner C k i) k i
def wouter (T : Nat → Nat → Bool) (n : Nat) : Nat → Nat → Nat → Bool
  | 0 => T
  | k + 1 => winner (wouter T n k) k n
def clo (n : Nat) (T : Nat → Nat → Bool) : Nat → Nat → Bool := wouter T n n
theorem winner_eq (C : Nat → Nat → Bool) (k : Nat) : ∀ i a j, winner C k i a j = if a < i then C a j || (C a k && C k j) else C a j
  | 0, a, j => by rw [if_neg (Nat.not_lt_zero _)]; rfl
  | i + 1, a, j => by
    have ih := winner_eq C k i
    show wstep (winner C k i) k i a j = _
    unfold wstep
    have e1 : winner C k i i k = C i k := by rw [ih i k, if_neg (Nat.lt_irrefl _)]
    have e2 : winner C k i i j = C i j := by rw [ih i j, if_neg (Nat.lt_irrefl _)]
    have e3 : winner C k i k j = C k j := by
      rw [ih k j]
      split
      · cases C k j <;> cases C k k <;> rfl
      · rfl
    rw [e1, e2, e3, ih a j]
    by_cases e : a = i
    · subst e
      rw [if_pos (Nat.lt_succ_self a), if_neg (Nat.lt_irrefl a)]
      by_cases hk : C a k = true
      · rw [if_pos ⟨rfl, hk⟩, hk]; simp
      · rw [if_neg (fun h => hk h.2)]
        have : C a k = false := by simpa using hk
        rw [this]; cases C a j <;> rfl
    · rw [if_neg (fun h => e h.1)]
      by_cases hlt : a < i
      · rw [if_pos hlt, if_pos (by omega)]
      · rw [if_neg hlt, if_neg (by omega)]
theorem wouter_mono (T : Nat → Nat → Bool) (n : Nat) : ∀ k i j, T i j = true → wouter T n k i j = true
  | 0, _, _, h => h
  | k + 1, i, j, h => by
    have := wouter_mono T n k i j h
    show winner (wouter T n k) k n i j = true
    rw [winner_eq]
    split <;> simp [this]
theorem clo_base {n : Nat} {T : Nat → Nat → Bool} {i j : Nat} (h : T i j = true) : clo n T i j = true := wouter_mono T n n i j h
def Trans (n : Nat) (S : Nat → Nat → Bool) : Prop := ∀ i j k, i < n → j < n → k < n → S i j = true → S j k = true → S i k = true
theorem wouter_sound {n : Nat} {T S : Nat → Nat → Bool} (ht : Trans n S) (hs : ∀ i j, i < n → j < n → T i j = true → S i j = true) : ∀ k, k ≤ n → ∀ i j, i < n → j < n → wouter T n k i j = true → S i j = true
  | 0, _, i, j, hi, hj, h => hs i j hi hj h
  | k + 1, hk, i, j, hi, hj, h => by
    have ih := wouter_sound (T := T) ht hs k (by omega)
    have h' : winner (wouter T n k) k n i j = true := h
    rw [winner_eq, if_pos hi, Bool.or_eq_true, Bool.and_eq_true] at h'
    rcases h' with h1 | ⟨h1, h2⟩
    · exact ih i j hi hj h1
    · exact ht i k j hi (by omega) hj (ih i k hi (by omega) h1) (ih k j (by omega) hj h2)
theorem clo_least {n : Nat} {T S : Nat → Nat → Bool} (ht : Trans n S) (hs : ∀ i j, i < n → j < n → T i j = true → S i j = true) {i j : Nat} (hi : i < n) (hj : j < n) (h : clo n T i j = true) : S i j = true :=
  wouter_sound ht hs n (Nat.le_refl _) i j hi hj h
theorem wouter_trans {n : Nat} {T : Nat → Nat → Bool} : ∀ k, k ≤ n → ∀ m, m < k → ∀ i j, i < n → j < n → wouter T n k i m = true → wouter T n k m j = true → wouter T n k i j = true
  | 0, _, m, hm, _, _, _, _, _, _ => absurd hm (Nat.not_lt_zero _)
  | k + 1, hk, m, hm, i, j, hi, hj, h1, h2 => by
    have ih := wouter_trans (n := n) (T := T) k (by omega)
    have e : ∀ a b, a < n → wouter T n (k + 1) a b = (wouter T n k a b || (wouter T n k a k && wouter T n k k b)) := fun a b ha => by
      show winner (wouter T n k) k n a b = _
      rw [winner_eq, if_pos ha]
    rw [e i m hi, Bool.or_eq_true, Bool.and_eq_true] at h1
    rw [e m j (by omega), Bool.or_eq_true, Bool.and_eq_true] at h2
    rw [e i j hi, Bool.or_eq_true, Bool.and_eq_true]
    by_cases hmk : m = k
    · subst hmk
      have a1 : wouter T n m i m = true := by rcases h1 with h | h; exact h; exact h.1
      have a2 : wouter T n m m j = true := by rcases h2 with h | h; exact h; exact h.2
      exact Or.inr ⟨a1, a2⟩
    · have hm' : m < k := by omega
      rcases h1 with h1 | ⟨h1, h1'⟩
      · rcases h2 with h2 | ⟨h2, h2'⟩
        · exact Or.inl (ih m hm' i j hi hj h1 h2)
        · exact Or.inr ⟨ih m hm' i k hi (by omega) h1 h2, h2'⟩
      · rcases h2 with h2 | ⟨h2, h2'⟩
        · exact Or.inr ⟨h1, ih m hm' k j (by omega) hj h1' h2⟩
        · exact Or.inr ⟨h1, h2'⟩
theorem clo_trans (n : Nat) (T : Nat → Nat → Bool) : Trans n (clo n T) := fun i j k hi hj hk h1 h2 => wouter_trans n (Nat.le_refl _) j hj i k hi hk h1 h2
theorem clo_congr {n : Nat} {T S : Nat → Nat → Bool} (h : ∀ i, i < n → ∀ j, j < n → T i j = S i j) : ∀ i, i < n → ∀ j, j < n → clo n T i j = clo n S i j := by
  intro i hi j hj
  apply bool_ext
  exact ⟨fun h1 => clo_least (clo_trans n S) (fun a b ha hb h2 => clo_base (by rw [← h a ha b hb]; exact h2)) hi hj h1,
    fun h1 => clo_least (clo_trans n T) (fun a b ha hb h2 => clo_base (by rw [h a ha b hb]; exact h2)) hi hj h1⟩
/- the first step of a path -/
theorem clo_first {n : Nat} {T : Nat → Nat → Bool} {i j : Nat} (hi : i < n) (hj : j < n) (h : clo n T i j = true) : T i j = true ∨ ∃ m, m < n ∧ T i m = true ∧ clo n T m j = true := by
  have key : (T i j || comp n T (clo n T) i j) = true := by
    refine clo_least (S := fun a b => T a b || comp n T (clo n T) a b) (fun a b c ha hb hc h1 h2 => ?_) (fun a b _ _ h => by simp [h]) hi hj h
    have h2' : clo n T b c = true := by
      rw [Bool.or_eq_true] at h2
      rcases h2 with h2 | h2
      · exact clo_base h2
      · obtain ⟨m, hm, h3, h4⟩ := comp_iff.1 h2
        exact clo_trans n T b m c hb hm hc (clo_base h3) h4
    rw [Bool.or_eq_true] at h1 ⊢
    right
    rcases h1 with h1 | h1
    · exact comp_iff.2 ⟨b, hb, h1, h2'⟩
    · obtain ⟨m, hm, h3, h4⟩ := comp_iff.1 h1
      exact comp_iff.2 ⟨m, hm, h3, clo_trans n T m b c hm hb hc h4 h2'⟩
  rw [Bool.or_eq_true] at key
  exact key.imp id comp_iff.1
theorem comp_clo {n : Nat} {T : Nat → Nat → Bool} {i j : Nat} (hi : i < n) (hj : j < n) : comp n T (clo n T) i j = comp n (clo n T) (clo n T) i j := by
  apply bool_ext
  rw [comp_iff, comp_iff]
  constructor
  · rintro ⟨k, hk, h1, h2⟩; exact ⟨k, hk, clo_base h1, h2⟩
  · rintro ⟨k, hk, h1, h2⟩
    rcases clo_first hi hk h1 with h3 | ⟨m, hm, h3, h4⟩
    · exact ⟨k, hk, h3, h2⟩
    · exact ⟨m, hm, h3, clo_trans n T m k j hm hk hj h4 h2⟩
/- the reduction -/
def red (n : Nat) (T : Nat → Nat → Bool) : Nat → Nat → Bool := fun i j => T i j && !comp n T (clo n T) i j
def Acy (n : Nat) (T : Nat → Nat → Bool) : Prop := ∀ i, i < n → clo n T i i = false
theorem filter_le {p q : Nat → Bool} {n : Nat} (h : ∀ i, i < n → q i = true → p i = true) : ((List.range n).filter q).length ≤ ((List.range n).filter p).length := by
  induction n with
  | zero => simp
  | succ n ih =>
    have := ih (fun i hi => h i (by omega))
    rw [List.range_succ, List.filter_append, List.filter_append, List.length_append, List.length_append]
    have h2 : ([n].filter q).length ≤ ([n].filter p).length := by
      cases hqk : q n
      · simp [hqk]
      · simp [hqk, h n (by omega) hqk]
    omega
theorem filter_lt {p q : Nat → Bool} {n m : Nat} (hm : m < n) (hp : p m = true) (hq : q m = false) (h : ∀ i, i < n → q i = true → p i = true) : ((List.range n).filter q).length < ((List.range n).filter p).length := by
  induction n with
  | zero => omega
  | succ n ih =>
    rw [List.range_succ, List.filter_append, List.filter_append, List.length_append, List.length_append]
    by_cases e : m = n
    · subst e
      have := filter_le (p := p) (q := q) (n := m) (fun i hi => h i (by omega))
      have h1 : ([m].filter p).length = 1 := by simp [hp]
      have h2 : ([m].filter q).length = 0 := by simp [hq]
      omega
    · have := ih (by omega) (fun i hi => h i (by omega))
      have h2 : ([n].filter q).length ≤ ([n].filter p).length := by
        cases hqk : q n
        · simp [hqk]
        · simp [hqk, h n (by omega) hqk]
      omega
theorem red_clo {n : Nat} {T : Nat → Nat → Bool} (ha : Acy n T) : ∀ (d : Nat) (i j : Nat), ((List.range n).filter fun k => clo n T i k && clo n T k j).length ≤ d → i < n → j < n → clo n T i j = true → clo n (red n T) i j = true := by
  intro d
  induction d with
  | zero =>
    intro i j hd hi hj h
    have hno : ∀ k, k < n → (clo n T i k && clo n T k j) = false := by
      intro k hk
      have h0 := List.length_eq_zero_iff.1 (Nat.le_zero.1 hd)
      rw [List.filter_eq_nil_iff] at h0
      have := h0 k (by simpa using hk)
      simpa using this
    refine clo_base ?_
    unfold red
    rw [Bool.and_eq_true]
    constructor
    · rcases clo_first hi hj h with h1 | ⟨m, hm, h1, h2⟩
      · exact h1
      · have := hno m hm
        rw [clo_base h1, h2] at this; cases this
    · rw [Bool.not_eq_true']
      cases hc : comp n T (clo n T) i j
      · rfl
      · obtain ⟨k, hk, h1, h2⟩ := comp_iff.1 hc
        have := hno k hk
        rw [clo_base h1, h2] at this; cases this
  | succ d ih =>
    intro i j hd hi hj h
    by_cases hex : ∃ m, m < n ∧ clo n T i m = true ∧ clo n T m j = true
    · obtain ⟨m, hm, h1, h2⟩ := hex
      have hmm := ha m hm
      have s1 : ((List.range n).filter fun k => clo n T i k && clo n T k m).length < ((List.range n).filter fun k => clo n T i k && clo n T k j).length := by
        refine filter_lt hm (by rw [h1, h2]; rfl) (by rw [hmm, Bool.and_false]) (fun k hk hq => ?_)
        rw [Bool.and_eq_true] at hq ⊢
        exact ⟨hq.1, clo_trans n T k m j hk hm hj hq.2 h2⟩
      have s2 : ((List.range n).filter fun k => clo n T m k && clo n T k j).length < ((List.range n).filter fun k => clo n T i k && clo n T k j).length := by
        refine filter_lt hm (by rw [h1, h2]; rfl) (by rw [hmm, Bool.false_and]) (fun k hk hq => ?_)
        rw [Bool.and_eq_true] at hq ⊢
        exact ⟨clo_trans n T i m k hi hm hk h1 hq.1, hq.2⟩
      exact clo_trans n (red n T) i m j hi hm hj (ih i m (by omega) hi hm h1) (ih m j (by omega) hm hj h2)
    · refine clo_base ?_
      unfold red
      rw [Bool.and_eq_true]
      constructor
      · rcases clo_first hi hj h with h1 | ⟨m, hm, h1, h2⟩
        · exact h1
        · exact absurd ⟨m, hm, clo_base h1, h2⟩ hex
      · rw [Bool.not_eq_true']
        cases hc : comp n T (clo n T) i j
        · rfl
        · obtain ⟨k, hk, h1, h2⟩ := comp_iff.1 hc
          exact absurd ⟨k, hk, clo_base h1, h2⟩ hex
theorem red_same {n : Nat} {T : Nat → Nat → Bool} (ha : Acy n T) : ∀ i, i < n → ∀ j, j < n → clo n (red n T) i j = clo n T i j := by
  intro i hi j hj
  apply bool_ext
  constructor
  · exact fun h => clo_least (clo_trans n T) (fun a b _ _ h2 => clo_base (by unfold red at h2; rw [Bool.and_eq_true] at h2; exact h2.1)) hi hj h
  · exact fun h => red_clo ha _ i j (Nat.le_refl _) hi hj h
/- with one pair less, the closure of the reduction has lost it -/
theorem red_lost {n : Nat} {T L : Nat → Nat → Bool} {a b : Nat} (ha : a < n) (hb : b < n) (hab : red n T a b = true) (hl : ∀ i, i < n → ∀ j, j < n → L i j = true → red n T i j = true) (hlab : L a b = false) : clo n L a b = false := by
  cases hc : clo n L a b
  · rfl
  · exfalso
    have hsub : ∀ i j, i < n → j < n → clo n L i j = true → clo n T i j = true := fun i j hi hj h =>
      clo_least (clo_trans n T) (fun x y hx hy h2 => clo_base (by have := hl x hx y hy h2; unfold red at this; rw [Bool.and_eq_true] at this; exact this.1)) hi hj h
    have hred : T a b = true ∧ comp n T (clo n T) a b = false := by
      unfold red at hab
      rw [Bool.and_eq_true, Bool.not_eq_true'] at hab; exact hab
    rcases clo_first ha hb hc with h1 | ⟨m, hm, h1, h2⟩
    · rw [hlab] at h1; cases h1
    · have h3 := hl a ha m hm h1
      unfold red at h3
      rw [Bool.and_eq_true] at h3
      have : comp n T (clo n T) a b = true := comp_iff.2 ⟨m, hm, h3.1, hsub m b hm hb h2⟩
      rw [hred.2] at this; cases this
end Go.Proofs.YtngpfondnampjaaDoor
