/- Plain mathematics of relations: topological orders. -/
import Derived.Test.YtngpfondnampjaaDoorRMath
namespace Go.Proofs.YtngpfondnampjaaDoor
def freeOf (T : Nat → Nat → Bool) (n : Nat) (done : List Nat) (j : Nat) : Bool := !done.contains j && (List.range n).all fun i => !T i j || done.contains i
def nextOf (T : Nat → Nat → Bool) (n : Nat) (done : List Nat) : Option Nat := (List.range n).find? (freeOf T n done)
def topo (T : Nat → Nat → Bool) (n : Nat) : Nat → List Nat → Option (List Nat)
  | 0, o => some o
  | k + 1, o => match nextOf T n o with
    | none => none
    | some j => topo T n k (o ++ [j])
def orderOf (n : Nat) (T : Nat → Nat → Bool) : Option (List Nat) := topo T n n []
theorem freeOf_iff {T : Nat → Nat → Bool} {n : Nat} {done : List Nat} {j : Nat} : freeOf T n done j = true ↔ j ∉ done ∧ ∀ i, i < n → T i j = true → i ∈ done := by
  unfold freeOf
  rw [Bool.and_eq_true, List.all_eq_true]
  constructor
  · rintro ⟨h1, h2⟩
    refine ⟨by simpa using h1, fun i hi ht => ?_⟩
    have := h2 i (by simpa using hi)
    rw [ht] at this; simpa using this
  · rintro ⟨h1, h2⟩
    refine ⟨by simpa using h1, fun i hi => ?_⟩
    cases ht : T i j
    · rfl
    · have := h2 i (by simpa using hi) ht
      simpa using this
theorem find_range_some {p : Nat → Bool} {n j : Nat} : (List.range n).find? p = some j ↔ j < n ∧ p j = true ∧ ∀ i, i < j → p i = false := by
  induction n with
  | zero => simp
  | succ n ih =>
    rw [List.range_succ, List.find?_append]
    constructor
    · intro h
      cases hf : (List.range n).find? p with
      | some x =>
        rw [hf] at h
        simp only [Option.some_or, Option.some.injEq] at h
        subst h
        have := ih.1 hf
        exact ⟨by omega, this.2⟩
      | none =>
        rw [hf] at h
        simp only [Option.none_or, List.find?_cons, List.find?_nil] at h
        rw [List.find?_eq_none] at hf
        cases hp : p n
        · rw [hp] at h; cases h
        · rw [hp] at h
          have hnj : n = j := by simpa using h
          subst hnj
          exact ⟨by omega, hp, fun i hi => by simpa using hf i (by simpa using hi)⟩
    · rintro ⟨h1, h2, h3⟩
      by_cases e : j = n
      · subst e
        have : (List.range j).find? p = none := by
          rw [List.find?_eq_none]; intro x hx; simpa using h3 x (by simpa using hx)
        rw [this]; simp [h2]
      · rw [ih.2 ⟨by omega, h2, h3⟩]; rfl
theorem find_range_none {p : Nat → Bool} {n : Nat} : (List.range n).find? p = none ↔ ∀ i, i < n → p i = false := by
  rw [List.find?_eq_none]
  constructor
  · intro h i hi; simpa using h i (by simpa using hi)
  · intro h x hx; simpa using h x (by simpa using hx)
/- what is kept while the order is made -/
structure Topo (T : Nat → Nat → Bool) (n : Nat) (o : List Nat) : Prop where
  lt : ∀ x, x ∈ o → x < n
  nodup : o.Nodup
  count : ((List.range n).filter o.contains).length = o.length
  prec : ∀ (p x : Nat), o[p]? = some x → ∀ i, i < n → T i x = true → ∃ q, q < p ∧ o[q]? = some i
theorem Topo.closed {T : Nat → Nat → Bool} {n : Nat} {o : List Nat} (h : Topo T n o) {j i : Nat} (hj : j ∈ o) (hi : i < n) (ht : T i j = true) : i ∈ o := by
  obtain ⟨p, hp⟩ := List.mem_iff_getElem?.1 hj
  obtain ⟨q, _, hq⟩ := h.prec p j hp i hi ht
  exact List.mem_iff_getElem?.2 ⟨q, hq⟩
theorem topo_nil (T : Nat → Nat → Bool) (n : Nat) : Topo T n [] := ⟨(fun x hx => by cases hx), List.nodup_nil, (by simp), (fun p x hp => by simp at hp)⟩
theorem filter_or_one {p : Nat → Bool} {n j : Nat} (hj : j < n) (hp : p j = false) : ((List.range n).filter fun i => p i || decide (i = j)).length = ((List.range n).filter p).length + 1 := by
  induction n with
  | zero => omega
  | succ n ih =>
    rw [List.range_succ, List.filter_append, List.filter_append, List.length_append, List.length_append]
    by_cases e : j = n
    · subst e
      have : (List.range j).filter (fun i => p i || decide (i = j)) = (List.range j).filter p := by
        apply List.filter_congr
        intro x hx
        have : ¬ x = j := by have := List.mem_range.1 hx; omega
        simp [this]
      rw [this]
      simp [hp]
    · rw [ih (by omega)]
      have : ¬ n = j := fun h => e h.symm
      by_cases hpn : p n = true <;> simp [hpn, this] <;> omega
theorem Topo.step {T : Nat → Nat → Bool} {n : Nat} {o : List Nat} (h : Topo T n o) {j : Nat} (hj : nextOf T n o = some j) : Topo T n (o ++ [j]) := by
  obtain ⟨h1, h2, _⟩ := find_range_some.1 hj
  obtain ⟨h3, h4⟩ := freeOf_iff.1 h2
  refine ⟨fun x hx => ?_, ?_, ?_, fun p x hp i hi ht => ?_⟩
  · rcases List.mem_append.1 hx with hx | hx
    · exact h.lt x hx
    · rw [List.mem_singleton.1 hx]; exact h1
  · rw [List.nodup_append]
    refine ⟨h.nodup, by simp, fun a ha b hb => ?_⟩
    rw [List.mem_singleton.1 hb]
    exact fun e => h3 (e ▸ ha)
  · have e : ∀ i, (o ++ [j]).contains i = (o.contains i || decide (i = j)) := fun i => by
      rw [Bool.eq_iff_iff]; simp
    have : (List.range n).filter (o ++ [j]).contains = (List.range n).filter fun i => o.contains i || decide (i = j) := List.filter_congr fun i _ => e i
    rw [this, filter_or_one h1 (by simpa using h3), h.count, List.length_append]; rfl
  · by_cases hlt : p < o.length
    · rw [List.getElem?_append_left hlt] at hp
      obtain ⟨q, hq, hqi⟩ := h.prec p x hp i hi ht
      exact ⟨q, hq, by rw [List.getElem?_append_left (by omega)]; exact hqi⟩
    · have hpe : p = o.length := by
        have := (List.getElem?_eq_some_iff.1 hp).1
        simp at this; omega
      subst hpe
      have hx : x = j := by simpa using hp.symm
      subst hx
      obtain ⟨q, hq⟩ := List.mem_iff_getElem?.1 (h4 i hi ht)
      have hql := (List.getElem?_eq_some_iff.1 hq).1
      exact ⟨q, hql, by rw [List.getElem?_append_left hql]; exact hq⟩
theorem topo_spec {T : Nat → Nat → Bool} {n : Nat} : ∀ (k : Nat) (o r : List Nat), Topo T n o → topo T n k o = some r → Topo T n r ∧ r.length = o.length + k
  | 0, o, r, h, he => by
    have : o = r := by simpa [topo] using he
    subst this; exact ⟨h, rfl⟩
  | k + 1, o, r, h, he => by
    unfold topo at he
    cases hn : nextOf T n o with
    | none => rw [hn] at he; cases he
    | some j =>
      rw [hn] at he
      have := topo_spec k (o ++ [j]) r (h.step hn) he
      refine ⟨this.1, ?_⟩
      rw [this.2, List.length_append, List.length_singleton]; omega
theorem topo_all {T : Nat → Nat → Bool} {n : Nat} {o : List Nat} (h : Topo T n o) (hl : o.length = n) : ∀ i, i < n → i ∈ o := by
  intro i hi
  have hc := h.count
  rw [hl] at hc
  have hall : ∀ (p : Nat → Bool) (m : Nat), ((List.range m).filter p).length = m → ∀ i, i < m → p i = true := by
    intro p m
    induction m with
    | zero => intro _ i hi; omega
    | succ m ih =>
      intro hm i hi
      rw [List.range_succ, List.filter_append, List.length_append] at hm
      have h1 := List.length_filter_le p (List.range m)
      rw [List.length_range] at h1
      have h2 := List.length_filter_le p [m]
      rw [List.length_singleton] at h2
      by_cases e : i = m
      · subst e
        cases hp : p i
        · have : ([i].filter p).length = 0 := by simp [hp]
          omega
        · rfl
      · exact ih (by omega) i (by omega)
  simpa using hall o.contains n hc i hi
/- there is an order exactly if there is no cycle -/
theorem topo_acy {T : Nat → Nat → Bool} {n : Nat} {o : List Nat} (h : Topo T n o) (hl : o.length = n) : Acy n T := by
  intro i hi
  cases hc : clo n T i i
  · rfl
  · exfalso
    have hall := topo_all h hl
    have hidx : ∀ x, x < n → o[o.idxOf x]? = some x := fun x hx => by
      have := List.idxOf_lt_length_iff.2 (hall x hx)
      rw [List.getElem?_eq_getElem this, List.getElem_idxOf]
    have key : decide (o.idxOf i < o.idxOf i) = true := by
      refine clo_least (S := fun a b => decide (o.idxOf a < o.idxOf b)) (fun a b c _ _ _ h1 h2 => ?_) (fun a b ha hb ht => ?_) hi hi hc
      · rw [decide_eq_true_iff] at h1 h2 ⊢; omega
      · rw [decide_eq_true_iff]
        obtain ⟨q, hq, hqa⟩ := h.prec _ b (hidx b hb) a ha ht
        have hql := (List.getElem?_eq_some_iff.1 hqa).1
        have hqe : o[q] = a := (List.getElem?_eq_some_iff.1 hqa).2
        have : o.idxOf a ≤ q := by
          rcases Nat.lt_or_ge q (o.idxOf a) with h5 | h5
          · exact absurd hqe (by have := List.not_of_lt_findIdx (p := (· == a)) (xs := o) (i := q) h5; simpa using this)
          · exact h5
        omega
    rw [decide_eq_true_iff] at key
    exact Nat.lt_irrefl _ key
theorem min_exists (m : Nat → Nat) (p : Nat → Prop) (x : Nat) (hx : p x) : ∃ y, p y ∧ ∀ z, p z → m y ≤ m z := by
  have : ∀ d x, m x ≤ d → p x → ∃ y, p y ∧ ∀ z, p z → m y ≤ m z := by
    intro d
    induction d with
    | zero => intro x hx hp; exact ⟨x, hp, fun z _ => by omega⟩
    | succ d ih =>
      intro x hx hp
      by_cases h : ∃ z, p z ∧ m z < m x
      · obtain ⟨z, hz, hlt⟩ := h
        exact ih z (by omega) hz
      · exact ⟨x, hp, fun z hz => by
          rcases Nat.lt_or_ge (m z) (m x) with h2 | h2
          · exact absurd ⟨z, hz, h2⟩ h
          · exact h2⟩
  exact this _ x (Nat.le_refl _) hx
theorem next_some {T : Nat → Nat → Bool} {n : Nat} {o : List Nat} (ha : Acy n T) (h : Topo T n o) (hl : o.length < n) : ∃ j, nextOf T n o = some j := by
  have hex : ∃ x, x < n ∧ x ∉ o := by
    refine Classical.byContradiction fun hno => ?_
    have hall : ∀ i, i < n → i ∈ o := fun i hi => Classical.byContradiction fun hi2 => hno ⟨i, hi, hi2⟩
    have hc := h.count
    have : (List.range n).filter o.contains = List.range n := by
      rw [List.filter_eq_self]
      intro i hi
      simpa using hall i (by simpa using hi)
    rw [this, List.length_range] at hc
    omega
  obtain ⟨x, hx⟩ := hex
  obtain ⟨y, ⟨hy1, hy2⟩, hy3⟩ := min_exists (fun j => ((List.range n).filter fun i => clo n T i j).length) (fun j => j < n ∧ j ∉ o) x hx
  have hf : freeOf T n o y = true := by
    rw [freeOf_iff]
    refine ⟨hy2, fun i hi ht => Classical.byContradiction fun hio => ?_⟩
    have h1 := hy3 i ⟨hi, hio⟩
    have h2 : ((List.range n).filter fun k => clo n T k i).length < ((List.range n).filter fun k => clo n T k y).length :=
      filter_lt hi (clo_base ht) (ha i hi) (fun k hk hki => clo_trans n T k i y hk hi hy1 hki (clo_base ht))
    have h1' : ((List.range n).filter fun k => clo n T k y).length ≤ ((List.range n).filter fun k => clo n T k i).length := h1
    omega
  cases hn : nextOf T n o with
  | some j => exact ⟨j, rfl⟩
  | none => rw [find_range_none.1 hn y hy1] at hf; cases hf
theorem topo_some {T : Nat → Nat → Bool} {n : Nat} (ha : Acy n T) : ∀ (k : Nat) (o : List Nat), Topo T n o → o.length + k = n → ∃ r, topo T n k o = some r
  | 0, o, _, _ => ⟨o, rfl⟩
  | k + 1, o, h, hl => by
    obtain ⟨j, hj⟩ := next_some ha h (by omega)
    obtain ⟨r, hr⟩ := topo_some ha k (o ++ [j]) (h.step hj) (by rw [List.length_append, List.length_singleton]; omega)
    exact ⟨r, by unfold topo; rw [hj]; exact hr⟩
theorem order_some {n : Nat} {T : Nat → Nat → Bool} (ha : Acy n T) : ∃ r, orderOf n T = some r := topo_some ha n [] (topo_nil T n) (by simp)
theorem order_topo {n : Nat} {T : Nat → Nat → Bool} {r : List Nat} (h : orderOf n T = some r) : Topo T n r ∧ r.length = n := by
  have := topo_spec n [] r (topo_nil T n) h
  exact ⟨this.1, by simpa using this.2⟩
theorem order_acy {n : Nat} {T : Nat → Nat → Bool} {r : List Nat} (h : orderOf n T = some r) : Acy n T := topo_acy (order_topo h).1 (order_topo h).2
theorem freeOf_congr {T S : Nat → Nat → Bool} {n : Nat} (h : ∀ i, i < n → ∀ j, j < n → T i j = S i j) (o : List Nat) {j : Nat} (hj : j < n) : freeOf T n o j = freeOf S n o j := by
  unfold freeOf
  have : (List.range n).all (fun i => !T i j || o.contains i) = (List.range n).all (fun i => !S i j || o.contains i) := by
    rw [Bool.eq_iff_iff, List.all_eq_true, List.all_eq_true]
    constructor
    · intro h2 i hi; rw [← h i (by simpa using hi) j hj]; exact h2 i hi
    · intro h2 i hi; rw [h i (by simpa using hi) j hj]; exact h2 i hi
  rw [this]
theorem nextOf_congr {T S : Nat → Nat → Bool} {n : Nat} (h : ∀ i, i < n → ∀ j, j < n → T i j = S i j) (o : List Nat) : nextOf T n o = nextOf S n o := by
  unfold nextOf
  have : ∀ l : List Nat, (∀ x, x ∈ l → x < n) → l.find? (freeOf T n o) = l.find? (freeOf S n o) := by
    intro l
    induction l with
    | nil => intro _; rfl
    | cons x l ih =>
      intro hl
      rw [List.find?_cons, List.find?_cons, freeOf_congr h o (hl x (by simp)), ih (fun y hy => hl y (by simp [hy]))]
  exact this _ (fun x hx => by simpa using hx)
theorem topo_congr {T S : Nat → Nat → Bool} {n : Nat} (h : ∀ i, i < n → ∀ j, j < n → T i j = S i j) : ∀ k o, topo T n k o = topo S n k o
  | 0, _ => rfl
  | k + 1, o => by
    unfold topo
    rw [nextOf_congr h o]
    cases nextOf S n o with
    | none => rfl
    | some j => exact topo_congr h k (o ++ [j])
theorem order_congr {T S : Nat → Nat → Bool} {n : Nat} (h : ∀ i, i < n → ∀ j, j < n → T i j = S i j) : orderOf n T = orderOf n S := topo_congr h n []
/- how many predecessors a number has that stand in no list; -1 for those that stand in it -/
def predc (T : Nat → Nat → Bool) (n : Nat) (o : List Nat) (j : Nat) : Int := if o.contains j then -1 else (((List.range n).filter fun i => T i j && !o.contains i).length : Nat)
theorem predc_zero {T : Nat → Nat → Bool} {n : Nat} {o : List Nat} {j : Nat} : predc T n o j = 0 ↔ freeOf T n o j = true := by
  unfold predc
  rw [freeOf_iff]
  by_cases hj : o.contains j = true
  · rw [if_pos hj]
    have : j ∈ o := by simpa using hj
    constructor
    · intro h; omega
    · rintro ⟨h, _⟩; exact absurd this h
  · rw [if_neg hj]
    have hj' : j ∉ o := by simpa using hj
    constructor
    · intro h
      have h0 : ((List.range n).filter fun i => T i j && !o.contains i).length = 0 := by omega
      rw [List.length_eq_zero_iff, List.filter_eq_nil_iff] at h0
      refine ⟨hj', fun i hi ht => ?_⟩
      have := h0 i (by simpa using hi)
      rw [ht] at this; simpa using this
    · rintro ⟨_, h⟩
      have : ((List.range n).filter fun i => T i j && !o.contains i) = [] := by
        rw [List.filter_eq_nil_iff]
        intro i hi
        cases ht : T i j
        · simp
        · have := h i (by simpa using hi) ht
          simp [this]
      rw [this]; rfl
theorem predc_nil (T : Nat → Nat → Bool) (n j : Nat) : predc T n [] j = (((List.range n).filter fun i => T i j).length : Nat) := by
  unfold predc
  simp
theorem predc_le (T : Nat → Nat → Bool) (n : Nat) (o : List Nat) (j : Nat) : -1 ≤ predc T n o j ∧ predc T n o j ≤ n := by
  unfold predc
  split
  · omega
  · have := List.length_filter_le (fun i => T i j && !o.contains i) (List.range n)
    rw [List.length_range] at this
    omega
theorem predc_step {T : Nat → Nat → Bool} {n : Nat} {o : List Nat} (h : Topo T n o) {i : Nat} (hi : nextOf T n o = some i) (j : Nat) :
    predc T n (o ++ [i]) j = (if j = i then -1 else predc T n o j) + (if T i j = true then -1 else 0) := by
  obtain ⟨h1, h2, _⟩ := find_range_some.1 hi
  obtain ⟨h3, h4⟩ := freeOf_iff.1 h2
  unfold predc
  have e : ∀ x, (o ++ [i]).contains x = (o.contains x || decide (x = i)) := fun x => by rw [Bool.eq_iff_iff]; simp
  rw [e j]
  by_cases hji : j = i
  · subst hji
    have : ¬ T j j = true := fun ht => h3 (h4 j h1 ht)
    rw [if_pos (by simp), if_pos rfl, if_neg this]; rfl
  · rw [if_neg hji]
    have hd : decide (j = i) = false := by simpa using hji
    rw [hd, Bool.or_false]
    by_cases hj : o.contains j = true
    · have hjm : j ∈ o := by simpa using hj
      have : ¬ T i j = true := fun ht => h3 (h.closed hjm h1 ht)
      rw [if_pos hj, if_pos hj, if_neg this]; rfl
    · rw [if_neg hj, if_neg hj]
      by_cases ht : T i j = true
      · rw [if_pos ht]
        have hq := filter_or_one (p := fun x => T x j && !(o ++ [i]).contains x) (n := n) (j := i) h1 (by rw [e i]; simp)
        have hs : ((List.range n).filter fun x => (T x j && !(o ++ [i]).contains x) || decide (x = i)) = (List.range n).filter fun x => T x j && !o.contains x := by
          apply List.filter_congr
          intro x _
          rw [e x]
          by_cases hx : x = i
          · subst hx
            have : o.contains x = false := by simpa using h3
            simp only [ht, this, decide_true]; rfl
          · have : decide (x = i) = false := by simpa using hx
            simp only [this, Bool.or_false]
        rw [hs] at hq
        omega
      · rw [if_neg ht]
        have hs : ((List.range n).filter fun x => T x j && !(o ++ [i]).contains x) = (List.range n).filter fun x => T x j && !o.contains x := by
          apply List.filter_congr
          intro x _
          rw [e x]
          by_cases hx : x = i
          · subst hx
            have : T x j = false := by simpa using ht
            rw [this]; rfl
          · have : decide (x = i) = false := by simpa using hx
            rw [this, Bool.or_false]
        rw [hs]; omega
end Go.Proofs.YtngpfondnampjaaDoor
