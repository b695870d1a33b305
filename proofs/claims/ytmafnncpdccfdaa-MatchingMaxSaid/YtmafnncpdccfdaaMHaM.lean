/- Deficiencies (mathematics). -/
import Derived.Test.YtmafnncpdccfdaaMDef
namespace Go.Proofs.Ytmafnncpdccfdaa
theorem cntT_mark {s : Nat → Bool} {b : Nat} (h : s b = false) : ∀ {m}, b < m → cntT (mark s b) m = cntT s m + 1
  | 0, hb => absurd hb (Nat.not_lt_zero _)
  | m + 1, hb => by
    show cntT (mark s b) m + _ = cntT s m + _ + 1
    by_cases e : b = m
    · subst e
      rw [if_pos (mark_same s b), if_neg (by rw [h]; exact Bool.false_ne_true)]
      have : ∀ j, j ≤ b → cntT (mark s b) j = cntT s j := by
        intro j
        induction j with
        | zero => intro _; rfl
        | succ j ih =>
          intro hj
          show cntT (mark s b) j + _ = cntT s j + _
          rw [ih (by omega)]
          have : mark s b j = s j := by unfold mark; rw [if_neg (by omega)]
          rw [this]
      rw [this b (Nat.le_refl _)]
    · have ih := cntT_mark h (m := m) (by omega)
      have : mark s b m = s m := by unfold mark; rw [if_neg (by omega)]
      rw [this]; omega
theorem cntT_none : ∀ m, cntT (fun _ => false) m = 0
  | 0 => rfl
  | m + 1 => by show cntT _ m + _ = 0; rw [cntT_none m]; rfl
theorem dC_cnt {N M : Int} {k : Nat} {E : Nat → Int × Int} (hv : VG N M k E) (T : Nat → Bool) : ∀ K, K ≤ k → dC E T K = cntT (dN E T K) M.toNat
  | 0, _ => (cntT_none _).symm
  | K + 1, hK => by
    have ih := dC_cnt hv T K (by omega)
    obtain ⟨_, h3, h4⟩ := hv.ran K hK
    show dC E T K + _ = cntT (if T (E K).1.toNat = true then mark (dN E T K) (E K).2.toNat else dN E T K) _
    by_cases hT : T (E K).1.toNat = true
    · rw [if_pos hT]
      cases hd : dN E T K (E K).2.toNat with
      | true => rw [if_neg (fun h => absurd h.2 (by decide)), mark_old hd, ih, Nat.add_zero]
      | false => rw [if_pos ⟨hT, rfl⟩, cntT_mark hd (by omega), ih]
    · rw [if_neg hT, if_neg (fun h => hT h.1), ih, Nat.add_zero]
theorem dN_iff {N M : Int} {k : Nat} {E : Nat → Int × Int} (hv : VG N M k E) (T : Nat → Bool) (b : Nat) : ∀ K, K ≤ k → (dN E T K b = true ↔ ∃ a, T a = true ∧ b ∈ nbs E K a)
  | 0, _ => ⟨fun h => absurd h Bool.false_ne_true, fun ⟨_, _, h⟩ => by cases h⟩
  | K + 1, hK => by
    have ih := dN_iff hv T b K (by omega)
    obtain ⟨⟨h1, h2⟩, h3, h4⟩ := hv.ran K hK
    have e : nbs E (K + 1) = setL (nbs E K) (E K).1.toNat (nbs E K (E K).1.toNat ++ [(E K).2.toNat]) := if_pos h1
    rw [e]
    show (if T (E K).1.toNat = true then mark (dN E T K) (E K).2.toNat else dN E T K) b = true ↔ _
    by_cases hT : T (E K).1.toNat = true
    · rw [if_pos hT, mark_or, ih]
      constructor
      · rintro (⟨a, ha, hb⟩ | h)
        · refine ⟨a, ha, ?_⟩
          unfold setL
          split
          · rename_i he; rw [he] at hb; exact List.mem_append_left _ hb
          · exact hb
        · exact ⟨_, hT, by rw [setL_same, h]; simp⟩
      · rintro ⟨a, ha, hb⟩
        unfold setL at hb
        split at hb
        · rename_i he
          rcases List.mem_append.1 hb with hb | hb
          · exact .inl ⟨a, ha, by rw [he]; exact hb⟩
          · exact .inr (by simpa using hb)
        · exact .inl ⟨a, ha, hb⟩
    · rw [if_neg hT, ih]
      constructor
      · rintro ⟨a, ha, hb⟩
        refine ⟨a, ha, ?_⟩
        rw [setL_ne _ _ (fun he => hT (by rw [← he]; exact ha))]
        exact hb
      · rintro ⟨a, ha, hb⟩
        rw [setL_ne _ _ (fun he => hT (by rw [← he]; exact ha))] at hb
        exact ⟨a, ha, hb⟩
/- sums -/
def sm (f : Nat → Nat) : Nat → Nat
  | 0 => 0
  | K + 1 => sm f K + f K
theorem sm_congr {f g : Nat → Nat} : ∀ {n}, (∀ i, i < n → f i = g i) → sm f n = sm g n
  | 0, _ => rfl
  | n + 1, h => by show sm f n + _ = sm g n + _; rw [sm_congr (n := n) (fun i hi => h i (by omega)), h n (Nat.lt_succ_self n)]
theorem sm_add (f g : Nat → Nat) : ∀ n, sm (fun i => f i + g i) n = sm f n + sm g n
  | 0 => rfl
  | n + 1 => by show sm (fun i => f i + g i) n + (f n + g n) = sm f n + f n + (sm g n + g n); rw [sm_add f g n]; omega
theorem sm_zero : ∀ n, sm (fun _ => 0) n = 0
  | 0 => rfl
  | n + 1 => by show sm _ n + 0 = 0; rw [sm_zero n]
theorem sm_swap (f : Nat → Nat → Nat) (m : Nat) : ∀ n, sm (fun a => sm (fun b => f a b) m) n = sm (fun b => sm (fun a => f a b) n) m
  | 0 => (sm_zero m).symm
  | n + 1 => by
    show sm _ n + sm (fun b => f n b) m = _
    rw [sm_swap f m n, ← sm_add]; rfl
theorem sm_one {f : Nat → Nat} {b0 : Nat} : ∀ {m}, b0 < m → (∀ b, b < m → b ≠ b0 → f b = 0) → sm f m = f b0
  | 0, h, _ => absurd h (Nat.not_lt_zero _)
  | m + 1, h, hz => by
    show sm f m + f m = f b0
    by_cases e : b0 = m
    · subst e
      rw [sm_congr (g := fun _ => 0) (fun i hi => hz i (by omega) (by omega)), sm_zero]; omega
    · rw [sm_one (m := m) (by omega) (fun b hb hne => hz b (by omega) hne), hz m (Nat.lt_succ_self m) (fun h => e h.symm)]; omega
theorem cntT_sm (T : Nat → Bool) : ∀ n, cntT T n = sm (fun a => if T a = true then 1 else 0) n
  | 0 => rfl
  | n + 1 => by show cntT T n + _ = sm _ n + _; rw [cntT_sm T n]
theorem cntT_mono {S T : Nat → Bool} : ∀ {n}, (∀ i, i < n → S i = true → T i = true) → cntT S n ≤ cntT T n
  | 0, _ => Nat.le_refl _
  | n + 1, h => by
    have ih := cntT_mono (n := n) (fun i hi => h i (by omega))
    show cntT S n + _ ≤ cntT T n + _
    by_cases c : S n = true
    · rw [if_pos c, if_pos (h n (Nat.lt_succ_self n) c)]; omega
    · rw [if_neg c]; split <;> omega
/- the matched nodes of a set are as many as their partners -/
theorem mat_cnt {n m : Nat} {nb : Nat → List Nat} {g : Gr} (h : Mat n m nb g) (P : Nat → Bool) :
    cntT (fun a => P a && !decide (g.L a = -1)) n = cntT (fun b => !decide (g.R b = -1) && P (g.R b).toNat) m := by
  rw [cntT_sm, cntT_sm]
  have e1 : sm (fun a => if (P a && !decide (g.L a = -1)) = true then 1 else 0) n = sm (fun a => sm (fun b => if g.L a = (b : Int) ∧ P a = true then 1 else 0) m) n := sm_congr fun a ha => by
    rcases h.l a ha with hL | ⟨b, hb, hL, _, _⟩
    · rw [if_neg (by rw [hL]; simp), sm_congr (g := fun _ => 0) (fun b _ => if_neg (by rw [hL]; omega)), sm_zero]
    · rw [sm_one hb (fun b' _ hne => if_neg (by rw [hL]; omega))]
      by_cases hP : P a = true
      · rw [if_pos (by rw [hP, hL, decide_eq_false (by omega)]; rfl), if_pos ⟨hL, hP⟩]
      · rw [if_neg (by simp [hP]), if_neg (fun h => hP h.2)]
  rw [e1, sm_swap]
  refine sm_congr fun b hb => ?_
  rcases Mat.r h b hb with hR | ⟨a, ha, hR, hL⟩
  · rw [if_neg (by rw [hR]; simp), sm_congr (g := fun _ => 0) (fun a ha => if_neg (fun hc => ?_)), sm_zero]
    rcases h.l a ha with h1 | ⟨b', _, h1, _, h2⟩
    · rw [h1] at hc; omega
    · have : b' = b := by omega
      subst this; omega
  · rw [sm_one ha (fun a' ha' hne => if_neg (fun hc => ?_))]
    · by_cases hP : P a = true
      · rw [if_pos ⟨hL, hP⟩, if_pos (by rw [hR, decide_eq_false (by omega), show ((a : Int)).toNat = a from rfl, hP]; rfl)]
      · rw [if_neg (fun h => hP h.2), if_neg (by rw [hR, show ((a : Int)).toNat = a from rfl]; simp [hP])]
    · rcases h.l a' ha' with h1 | ⟨b', _, h1, _, h2⟩
      · rw [h1] at hc; omega
      · have : b' = b := by omega
        subst this; omega
theorem cntT_split (P Q : Nat → Bool) : ∀ n, cntT P n = cntT (fun a => P a && Q a) n + cntT (fun a => P a && !Q a) n
  | 0 => rfl
  | n + 1 => by
    have ih := cntT_split P Q n
    show cntT P n + _ = cntT _ n + _ + (cntT _ n + _)
    cases hP : P n <;> cases hQ : Q n <;> simp [hP, hQ] <;> omega
theorem cntT_full {S T : Nat → Bool} : ∀ {n}, (∀ i, i < n → S i = true → T i = true) → cntT T n ≤ cntT S n → ∀ i, i < n → T i = true → S i = true
  | 0, _, _, _, hi, _ => absurd hi (Nat.not_lt_zero _)
  | n + 1, h, hc, i, hi, hT => by
    have m0 := cntT_mono (n := n) (fun i hi => h i (by omega))
    have hc' : cntT T n + (if T n = true then 1 else 0) ≤ cntT S n + (if S n = true then 1 else 0) := hc
    by_cases e : i = n
    · subst e
      by_cases hS : S i = true
      · exact hS
      · rw [if_pos hT, if_neg hS] at hc'; omega
    · refine cntT_full (n := n) (fun i hi => h i (by omega)) ?_ i (by omega) hT
      by_cases hS : S n = true
      · rw [if_pos hS, if_pos (h n (Nat.lt_succ_self n) hS)] at hc'; omega
      · rw [if_neg hS] at hc'; split at hc' <;> omega
/- the free nodes -/
def freeB (g : Gr) (a : Nat) : Bool := decide (g.L a = -1)
section
variable {n m : Nat} {nb : Nat → List Nat} {g : Gr} {T N : Nat → Bool}
/- N: the right nodes near T -/
theorem hall_le (h : Mat n m nb g) (hN : ∀ b, N b = true ↔ ∃ a, a < n ∧ T a = true ∧ b ∈ nb a) : cntT T n ≤ cntT (fun a => T a && freeB g a) n + cntT N m := by
  rw [cntT_split T (freeB g) n]
  have e : cntT (fun a => T a && !freeB g a) n = _ := mat_cnt h T
  rw [e]
  have : cntT (fun b => !decide (g.R b = -1) && T (g.R b).toNat) m ≤ cntT N m := cntT_mono fun b hb hx => by
    rcases Mat.r h b hb with hR | ⟨a, ha, hR, hL⟩
    · rw [hR] at hx; simp at hx
    · rw [hR] at hx
      have hT : T a = true := by simp at hx; first | exact hx.2 | exact hx
      rcases h.l a ha with h1 | ⟨b', _, h1, h2, _⟩
      · omega
      · have : b' = b := by omega
        subst this
        exact (hN b').2 ⟨a, ha, hT, h2⟩
  omega
theorem hall_max (h : Mat n m nb g) (hN : ∀ b, N b = true ↔ ∃ a, a < n ∧ T a = true ∧ b ∈ nb a) : (cntT T n : Int) - (cntT N m : Nat) ≤ (cntT (freeB g) n : Nat) := by
  have h1 := hall_le h hN
  have h2 : cntT (fun a => T a && freeB g a) n ≤ cntT (freeB g) n := cntT_mono fun a _ hx => by simp at hx; exact hx.2
  omega
/- where the deficiency is the greatest -/
theorem hall_eq (h : Mat n m nb g) (hN : ∀ b, N b = true ↔ ∃ a, a < n ∧ T a = true ∧ b ∈ nb a) (hd : cntT (freeB g) n + cntT N m ≤ cntT T n) :
    (∀ a, a < n → g.L a = -1 → T a = true) ∧ ∀ b, b < m → N b = true → ∃ a, a < n ∧ g.R b = (a : Int) ∧ T a = true := by
  have hs := cntT_split T (freeB g) n
  have e : cntT (fun a => T a && !freeB g a) n = cntT (fun b => !decide (g.R b = -1) && T (g.R b).toNat) m := mat_cnt h T
  rw [e] at hs
  have sub : ∀ b, b < m → (!decide (g.R b = -1) && T (g.R b).toNat) = true → N b = true := fun b hb hx => by
    rcases Mat.r h b hb with hR | ⟨a, ha, hR, hL⟩
    · rw [hR] at hx; simp at hx
    · rw [hR] at hx
      have hT : T a = true := by simp at hx; first | exact hx.2 | exact hx
      rcases h.l a ha with h1 | ⟨b', _, h1, h2, _⟩
      · omega
      · have : b' = b := by omega
        subst this
        exact (hN b').2 ⟨a, ha, hT, h2⟩
  have m1 := cntT_mono sub
  have sub2 : ∀ a, a < n → (T a && freeB g a) = true → freeB g a = true := fun a _ hx => by simp at hx; exact hx.2
  have m2 := cntT_mono sub2
  refine ⟨fun a ha hL => ?_, fun b hb hb2 => ?_⟩
  · have := cntT_full sub2 (by omega) a ha (decide_eq_true hL)
    simp at this; exact this.1
  · have := cntT_full sub (by omega) b hb hb2
    rcases Mat.r h b hb with hR | ⟨a, ha, hR, hL⟩
    · rw [hR] at this; simp at this
    · rw [hR] at this
      exact ⟨a, ha, hR, by simp at this; first | exact this.2 | exact this⟩
end
end Go.Proofs.Ytmafnncpdccfdaa
