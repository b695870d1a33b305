/- Plain mathematics of sets: what the functions and the reference make is the same; the order of sets. -/
import Derived.Test.YtijghglppgihmaaDoorBitE
import Derived.Test.YtijghglppgihmaaDoorBitB
namespace Go.Proofs.YtijghglppgihmaaDoor
theorem bt_at2 (f : Nat → Nat) (i : Nat) : bt f i = (f (i / 64)).testBit (i % 64) := rfl
theorem bt_or (f g : Nat → Nat) (i : Nat) : bt (comb orW f g) i = (bt f i || bt g i) := by
  simp only [bt_at2, comb, orW, Nat.testBit_or]
theorem bt_and (f g : Nat → Nat) (i : Nat) : bt (comb andW f g) i = (bt f i && bt g i) := by
  simp only [bt_at2, comb, andW, Nat.testBit_and]
theorem testBit_andNot {x y : Nat} (hy : y < 18446744073709551616) (j : Nat) (hj : j < 64) : (andNot x y).testBit j = (x.testBit j && !y.testBit j) := by
  have e : 18446744073709551615 - y = 2 ^ 64 - (y + 1) := by omega
  unfold andNot
  rw [Nat.testBit_and, e, Nat.testBit_two_pow_sub_succ (n := 64) hy]
  simp [hj]
theorem bt_not (f g : Nat → Nat) (m i : Nat) (hg : U64 g m) (hi : i < 64 * m) : bt (comb andNot f g) i = (bt f i && !bt g i) := by
  simp only [bt_at2, comb]
  exact testBit_andNot (hg _ (by omega)) _ (by omega)
theorem or_lt {x y : Nat} (hx : x < 18446744073709551616) (hy : y < 18446744073709551616) : orW x y < 18446744073709551616 := or_u64 hx hy
theorem and_lt {x y : Nat} (hx : x < 18446744073709551616) : andW x y < 18446744073709551616 := Nat.lt_of_le_of_lt Nat.and_le_left hx
theorem not_lt {x y : Nat} (hx : x < 18446744073709551616) : andNot x y < 18446744073709551616 := Nat.lt_of_le_of_lt Nat.and_le_left hx
theorem u64_or {f g : Nat → Nat} {m : Nat} (hf : U64 f m) (hg : U64 g m) : U64 (comb orW f g) m := fun k hk => or_lt (hf k hk) (hg k hk)
theorem u64_and' {f g : Nat → Nat} {m : Nat} (hf : U64 f m) : U64 (comb andW f g) m := fun k hk => and_lt (hf k hk)
theorem u64_not {f g : Nat → Nat} {m : Nat} (hf : U64 f m) : U64 (comb andNot f g) m := fun k hk => not_lt (hf k hk)
theorem vld_of {N : Int} {m : Nat} {f h : Nat → Nat} (hf : Vld N m f) (hb : ∀ i, N.toNat ≤ i → i < 64 * m → bt h i = false) : Vld N m h := ⟨hf.1, hf.2.1, hf.2.2.1, hb⟩
theorem vld_or {N : Int} {m : Nat} {f g : Nat → Nat} (hf : Vld N m f) (hg : Vld N m g) : Vld N m (comb orW f g) :=
  vld_of hf fun i h1 h2 => by rw [bt_or, hf.2.2.2 i h1 h2, hg.2.2.2 i h1 h2]; rfl
theorem vld_and {N : Int} {m : Nat} {f g : Nat → Nat} (hf : Vld N m f) : Vld N m (comb andW f g) :=
  vld_of hf fun i h1 h2 => by rw [bt_and, hf.2.2.2 i h1 h2]; rfl
theorem vld_not {N : Int} {m : Nat} {f g : Nat → Nat} (hf : Vld N m f) (hu : U64 g m) : Vld N m (comb andNot f g) :=
  vld_of hf fun i h1 h2 => by rw [bt_not f g m i hu h2, hf.2.2.2 i h1 h2]; rfl
/- With and Without -/
theorem chg_or (f : Nat → Nat) (i : Nat) : chg orW f i = wt f i := rfl
theorem bt_with (f : Nat → Nat) (i j : Nat) : bt (chg orW f i) j = (bt f j || decide (j = i)) := by rw [chg_or]; exact bt_wt f i j
theorem bt_without (f : Nat → Nat) (i j : Nat) : bt (chg andNot f i) j = (bt f j && !decide (j = i)) := by
  rw [bt_at2, bt_at2]
  unfold chg
  by_cases e : j / 64 = i / 64
  · rw [if_pos e, testBit_andNot (pow_lt _ (by omega)) _ (by omega), Nat.testBit_two_pow]
    have : (i % 64 = j % 64) ↔ (j = i) := by omega
    simp [this]
  · rw [if_neg e]
    have : ¬ j = i := fun h => e (by rw [h])
    simp [this]
theorem u64_with {f : Nat → Nat} {m : Nat} (hf : U64 f m) (i : Nat) : U64 (chg orW f i) m := wt_u64 hf i
theorem u64_without {f : Nat → Nat} {m : Nat} (hf : U64 f m) (i : Nat) : U64 (chg andNot f i) m := by
  intro k hk
  unfold chg
  split
  · exact not_lt (hf k hk)
  · exact hf k hk
theorem vld_with {N : Nat} {m : Nat} {f : Nat → Nat} (hf : Vld N m f) {i : Nat} (hi : i < N) : Vld N m (chg orW f i) :=
  vld_of hf fun j h1 h2 => by
    have : ¬ j = i := by simp only [Int.toNat_natCast] at h1; omega
    rw [bt_with, hf.2.2.2 j h1 h2]; simp [this]
theorem vld_without {N : Int} {m : Nat} {f : Nat → Nat} (hf : Vld N m f) (i : Nat) : Vld N m (chg andNot f i) :=
  vld_of hf fun j h1 h2 => by rw [bt_without, hf.2.2.2 j h1 h2]; rfl
/- sets of lists -/
theorem bt_ofl (l : List Nat) (i : Nat) : bt (ofl l) i = true ↔ i ∈ l := by
  unfold ofl
  rw [bt_ow]
  constructor
  · rintro ⟨j, hj, rfl⟩
    show l.getD j 0 ∈ l
    rw [List.getD_eq_getElem?_getD, List.getElem?_eq_getElem hj]; exact List.getElem_mem hj
  · intro h
    obtain ⟨j, hj, rfl⟩ := List.mem_iff_getElem.1 h
    refine ⟨j, hj, ?_⟩
    show l.getD j 0 = l[j]
    rw [List.getD_eq_getElem?_getD, List.getElem?_eq_getElem hj]; rfl
theorem ofl_words {h : Nat → Nat} {l : List Nat} {m : Nat} (hu : U64 h m) (hb : ∀ i, i < 64 * m → (bt h i = true ↔ i ∈ l)) : ∀ k, k < m → h k = ofl l k :=
  bt_ext hu (ofl_u64 l m) fun i hi => by
    rw [Bool.eq_iff_iff, bt_ofl]; exact hb i hi
theorem in_n {N : Nat} {m : Nat} {f : Nat → Nat} (hf : Vld N m f) {i : Nat} (hi : i < 64 * m) (hb : bt f i = true) : i < N := by
  rcases Nat.lt_or_ge i N with h | h
  · exact h
  · rw [hf.2.2.2 i (by simpa using h) hi] at hb; cases hb
theorem with_words {N m i : Nat} {f : Nat → Nat} (hu : U64 f m) (hf : Vld N m f) (_hi : i < N) : ∀ k, k < m → chg orW f i k = ofl (mem f N ++ [i]) k :=
  ofl_words (u64_with hu i) fun j hj => by
    rw [bt_with, Bool.or_eq_true, decide_eq_true_iff, List.mem_append, mem_in, List.mem_singleton]
    constructor
    · rintro (h | h)
      · exact Or.inl ⟨in_n hf hj h, h⟩
      · exact Or.inr h
    · rintro (h | h)
      · exact Or.inl h.2
      · exact Or.inr h
theorem mem_sel {c : Bool} {f g : Nat → Nat} {n i : Nat} : i ∈ sel c f g n ↔ i < n ∧ bt f i = true ∧ bt g i = c := by
  unfold sel
  rw [List.mem_filter, List.mem_range, Bool.and_eq_true, beq_iff_eq]
theorem without_words {N m i : Nat} {f : Nat → Nat} (hu : U64 f m) (hf : Vld N m f) : ∀ k, k < m → chg andNot f i k = ofl (sel false f (ofl [i]) N) k :=
  ofl_words (u64_without hu i) fun j hj => by
    have h1 : bt (ofl [i]) j = false ↔ ¬ j = i := by
      rw [← Bool.not_eq_true, bt_ofl, List.mem_singleton]
    rw [bt_without, mem_sel, h1]
    constructor
    · intro h
      simp only [Bool.and_eq_true, Bool.not_eq_true', decide_eq_false_iff_not] at h
      exact ⟨in_n hf hj h.1, h.1, h.2⟩
    · rintro ⟨_, h, h2⟩
      simp [h, h2]
theorem union_words {N m : Nat} {f g : Nat → Nat} (hu : U64 f m) (hv : U64 g m) (hf : Vld N m f) (hg : Vld N m g) : ∀ k, k < m → comb orW f g k = ofl (mem f N ++ mem g N) k :=
  ofl_words (u64_or hu hv) fun j hj => by
    rw [bt_or, Bool.or_eq_true, List.mem_append, mem_in, mem_in]
    constructor
    · rintro (h | h)
      · exact Or.inl ⟨in_n hf hj h, h⟩
      · exact Or.inr ⟨in_n hg hj h, h⟩
    · rintro (h | h)
      · exact Or.inl h.2
      · exact Or.inr h.2
theorem inter_words {N m : Nat} {f g : Nat → Nat} (hu : U64 f m) (hf : Vld N m f) : ∀ k, k < m → comb andW f g k = ofl (sel true f g N) k :=
  ofl_words (u64_and' hu) fun j hj => by
    rw [bt_and, Bool.and_eq_true, mem_sel]
    exact ⟨fun h => ⟨in_n hf hj h.1, h.1, h.2⟩, fun h => h.2⟩
theorem minus_words {N m : Nat} {f g : Nat → Nat} (hu : U64 f m) (hv : U64 g m) (hf : Vld N m f) : ∀ k, k < m → comb andNot f g k = ofl (sel false f g N) k :=
  ofl_words (u64_not hu) fun j hj => by
    rw [bt_not f g m j hv hj, mem_sel, Bool.and_eq_true, Bool.not_eq_true']
    exact ⟨fun h => ⟨in_n hf hj h.1, h.1, h.2⟩, fun h => h.2⟩
/- counts -/
theorem cnt_is {N m : Nat} {f : Nat → Nat} (hf : Vld N m f) : cnt f m = (mem f N).length := by
  rw [cnt_mem, mem_all hf]; rfl
theorem mem_is {N m : Nat} {f : Nat → Nat} (hf : Vld N m f) : mem f (64 * m) = mem f N := mem_all hf
theorem len_succ (f : Nat → Nat) (n : Nat) : (mem f (n + 1)).length = (mem f n).length + if bt f n then 1 else 0 := by
  rw [mem_succ, List.length_append]
  cases bt f n <;> rfl
theorem len_or_and (f g : Nat → Nat) (n : Nat) : (mem (comb orW f g) n).length + (mem (comb andW f g) n).length = (mem f n).length + (mem g n).length := by
  induction n with
  | zero => rfl
  | succ n ih =>
    rw [len_succ, len_succ, len_succ, len_succ, bt_or, bt_and]
    cases bt f n <;> cases bt g n <;> simp <;> omega
theorem len_not_and (f g : Nat → Nat) (m : Nat) (hg : U64 g m) : ∀ n, n ≤ 64 * m → (mem (comb andNot f g) n).length + (mem (comb andW f g) n).length = (mem f n).length := by
  intro n
  induction n with
  | zero => intro _; rfl
  | succ n ih =>
    intro hn
    have := ih (by omega)
    rw [len_succ, len_succ, len_succ, bt_not f g m n hg (by omega), bt_and]
    cases bt f n <;> cases bt g n <;> simp <;> omega
theorem cnt_or_and (f g : Nat → Nat) (m : Nat) : cnt (comb orW f g) m + cnt (comb andW f g) m = cnt f m + cnt g m := by
  simp only [cnt_mem]; exact len_or_and f g _
theorem cnt_not_and (f g : Nat → Nat) (m : Nat) (hg : U64 g m) : cnt (comb andNot f g) m + cnt (comb andW f g) m = cnt f m := by
  simp only [cnt_mem]; exact len_not_and f g m hg _ (Nat.le_refl _)
/- inclusion, by words and by bits -/
theorem andNot_zero {x y : Nat} (hx : x < 18446744073709551616) (hy : y < 18446744073709551616) : andNot x y = 0 ↔ ∀ j, j < 64 → x.testBit j = true → y.testBit j = true := by
  constructor
  · intro h j hj hx'
    have := testBit_andNot (x := x) hy j hj
    rw [h, Nat.zero_testBit, hx'] at this
    simpa using this.symm
  · intro h
    refine word_ext (not_lt hx) (by decide) fun j hj => ?_
    rw [testBit_andNot hy j hj, Nat.zero_testBit]
    cases hb : x.testBit j
    · rfl
    · rw [h j hj hb]; rfl
def Sub (f g : Nat → Nat) (m : Nat) : Prop := ∀ i, i < 64 * m → bt f i = true → bt g i = true
theorem sub_words {f g : Nat → Nat} {m : Nat} (hu : U64 f m) (hv : U64 g m) : Sub f g m ↔ ∀ k, k < m → andNot (f k) (g k) = 0 := by
  constructor
  · intro h k hk
    rw [andNot_zero (hu k hk) (hv k hk)]
    intro j hj hb
    have := h (64 * k + j) (by omega)
    rw [bt_at f k j hj, bt_at g k j hj] at this
    exact this hb
  · intro h i hi hb
    have hk : i / 64 < m := by omega
    exact (andNot_zero (hu _ hk) (hv _ hk)).1 (h _ hk) (i % 64) (by omega) hb
/- a first number with a property, or none -/
theorem first_of (p : Nat → Bool) (n : Nat) : (∀ i, i < n → p i = false) ∨ ∃ J, J < n ∧ p J = true ∧ ∀ i, i < J → p i = false := by
  induction n with
  | zero => left; intro i h; omega
  | succ n ih =>
    rcases ih with h | ⟨J, h1, h2, h3⟩
    · cases hp : p n
      · left; intro i hi
        by_cases e : i = n
        · rw [e]; exact hp
        · exact h i (by omega)
      · right; exact ⟨n, by omega, hp, h⟩
    · right; exact ⟨J, by omega, h2, h3⟩
/- the order: by counts, then by the first bit that differs -/
def CmpB (f g : Nat → Nat) (n : Nat) (r : Int) : Prop :=
  ((mem f n).length < (mem g n).length ∧ r = -1) ∨ ((mem g n).length < (mem f n).length ∧ r = 1) ∨
  ((mem f n).length = (mem g n).length ∧ ((r = 0 ∧ ∀ i, i < n → bt f i = bt g i) ∨ ∃ J, J < n ∧ (∀ i, i < J → bt f i = bt g i) ∧ ((r = -1 ∧ bt f J = true ∧ bt g J = false) ∨ (r = 1 ∧ bt f J = false ∧ bt g J = true))))
theorem cmpB_ex (f g : Nat → Nat) (n : Nat) : ∃ r, CmpB f g n r := by
  rcases Nat.lt_trichotomy (mem f n).length (mem g n).length with h | h | h
  · exact ⟨-1, Or.inl ⟨h, rfl⟩⟩
  · rcases first_of (fun i => bt f i != bt g i) n with h2 | ⟨J, h1, h2, h3⟩
    · exact ⟨0, Or.inr (Or.inr ⟨h, Or.inl ⟨rfl, fun i hi => by simpa using h2 i hi⟩⟩)⟩
    · have h4 : ∀ i, i < J → bt f i = bt g i := fun i hi => by simpa using h3 i hi
      cases hf : bt f J <;> cases hg : bt g J <;> simp [hf, hg] at h2
      · exact ⟨1, Or.inr (Or.inr ⟨h, Or.inr ⟨J, h1, h4, Or.inr ⟨rfl, hf, hg⟩⟩⟩)⟩
      · exact ⟨-1, Or.inr (Or.inr ⟨h, Or.inr ⟨J, h1, h4, Or.inl ⟨rfl, hf, hg⟩⟩⟩)⟩
  · exact ⟨1, Or.inr (Or.inl ⟨h, rfl⟩)⟩
theorem cmpB_symm {f g : Nat → Nat} {n : Nat} {r : Int} (h : CmpB f g n r) : CmpB g f n (-r) := by
  rcases h with ⟨h, rfl⟩ | ⟨h, rfl⟩ | ⟨h, ⟨rfl, h2⟩ | ⟨J, h1, h2, ⟨rfl, h3, h4⟩ | ⟨rfl, h3, h4⟩⟩⟩
  · exact Or.inr (Or.inl ⟨h, rfl⟩)
  · exact Or.inl ⟨h, rfl⟩
  · exact Or.inr (Or.inr ⟨h.symm, Or.inl ⟨rfl, fun i hi => (h2 i hi).symm⟩⟩)
  · exact Or.inr (Or.inr ⟨h.symm, Or.inr ⟨J, h1, fun i hi => (h2 i hi).symm, Or.inr ⟨rfl, h4, h3⟩⟩⟩)
  · exact Or.inr (Or.inr ⟨h.symm, Or.inr ⟨J, h1, fun i hi => (h2 i hi).symm, Or.inl ⟨rfl, h4, h3⟩⟩⟩)
theorem cmpB_range {f g : Nat → Nat} {n : Nat} {r : Int} (h : CmpB f g n r) : -1 ≤ r ∧ r ≤ 1 := by
  rcases h with ⟨h, rfl⟩ | ⟨h, rfl⟩ | ⟨h, ⟨rfl, h2⟩ | ⟨J, h1, h2, ⟨rfl, h3, h4⟩ | ⟨rfl, h3, h4⟩⟩⟩ <;> decide
theorem len_congr {f g : Nat → Nat} {n : Nat} (h : ∀ i, i < n → bt f i = bt g i) : (mem f n).length = (mem g n).length := by rw [mem_congr h]
theorem cmpB_zero {f g : Nat → Nat} {n : Nat} {r : Int} (h : CmpB f g n r) : r = 0 ↔ ∀ i, i < n → bt f i = bt g i := by
  rcases h with ⟨h, rfl⟩ | ⟨h, rfl⟩ | ⟨h, ⟨rfl, h2⟩ | ⟨J, h1, h2, ⟨rfl, h3, h4⟩ | ⟨rfl, h3, h4⟩⟩⟩
  · exact ⟨fun h0 => by omega, fun h2 => by have := len_congr h2; omega⟩
  · exact ⟨fun h0 => by omega, fun h2 => by have := len_congr h2; omega⟩
  · exact ⟨fun _ => h2, fun _ => rfl⟩
  · exact ⟨fun h0 => by omega, fun h5 => by rw [h5 J h1, h4] at h3; cases h3⟩
  · exact ⟨fun h0 => by omega, fun h5 => by rw [h5 J h1, h4] at h3; cases h3⟩
theorem cmpB_trans {f g h : Nat → Nat} {n : Nat} {r s t : Int} (h1 : CmpB f g n r) (h2 : CmpB g h n s) (h3 : CmpB f h n t) (hr : r ≤ 0) (hs : s ≤ 0) : t ≤ 0 := by
  rcases h1 with ⟨a1, rfl⟩ | ⟨a1, rfl⟩ | ⟨a1, a2⟩
  · -- the first has fewer members than the second
    have hgh : (mem g n).length ≤ (mem h n).length := by
      rcases h2 with ⟨b1, _⟩ | ⟨b1, rfl⟩ | ⟨b1, _⟩ <;> omega
    rcases h3 with ⟨c1, rfl⟩ | ⟨c1, rfl⟩ | ⟨c1, _⟩ <;> omega
  · omega
  · rcases h2 with ⟨b1, rfl⟩ | ⟨b1, rfl⟩ | ⟨b1, b2⟩
    · rcases h3 with ⟨c1, rfl⟩ | ⟨c1, rfl⟩ | ⟨c1, _⟩ <;> omega
    · omega
    · rcases h3 with ⟨c1, rfl⟩ | ⟨c1, rfl⟩ | ⟨c1, c2⟩
      · omega
      · omega
      · rcases c2 with ⟨rfl, _⟩ | ⟨J, c3, c4, ⟨rfl, _, _⟩ | ⟨rfl, c5, c6⟩⟩
        · omega
        · omega
        · exfalso
          rcases a2 with ⟨_, a3⟩ | ⟨P, a3, a4, ⟨rfl, a5, a6⟩ | ⟨rfl, _, _⟩⟩
          · rcases b2 with ⟨_, b3⟩ | ⟨Q, b3, b4, ⟨rfl, b5, b6⟩ | ⟨rfl, _, _⟩⟩
            · rw [a3 J c3, b3 J c3, c6] at c5; cases c5
            · rcases Nat.lt_trichotomy J Q with q | q | q
              · rw [a3 J c3, b4 J q, c6] at c5; cases c5
              · rw [q, b6] at c6; cases c6
              · have := c4 Q q; rw [a3 Q b3, b5, b6] at this; cases this
            · omega
          · rcases b2 with ⟨_, b3⟩ | ⟨Q, b3, b4, ⟨rfl, b5, b6⟩ | ⟨rfl, _, _⟩⟩
            · rcases Nat.lt_trichotomy J P with p | p | p
              · rw [a4 J p, b3 J c3, c6] at c5; cases c5
              · rw [p, a5] at c5; cases c5
              · have := c4 P p; rw [a5, ← b3 P a3, a6] at this; cases this
            · rcases Nat.lt_trichotomy P Q with q | q | q
              · rcases Nat.lt_trichotomy J P with p | p | p
                · rw [a4 J p, b4 J (by omega), c6] at c5; cases c5
                · rw [p, a5] at c5; cases c5
                · have := c4 P p; rw [a5, ← b4 P q, a6] at this; cases this
              · rw [q, b5] at a6; cases a6
              · rcases Nat.lt_trichotomy J Q with p | p | p
                · rw [a4 J (by omega), b4 J p, c6] at c5; cases c5
                · rw [p, b6] at c6; cases c6
                · have := c4 Q p; rw [a4 Q q, b5, b6] at this; cases this
            · omega
          · omega
theorem len_sub {f g : Nat → Nat} {n : Nat} (h : ∀ i, i < n → bt f i = true → bt g i = true) : (mem f n).length ≤ (mem g n).length := by
  induction n with
  | zero => exact Nat.le_refl _
  | succ n ih =>
    have h1 := ih (fun i hi => h i (by omega))
    have h2 := h n (by omega)
    rw [len_succ, len_succ]
    cases hf : bt f n
    · simp; omega
    · rw [h2 hf]; simp; omega
theorem cmpB_sub {f g : Nat → Nat} {n : Nat} {r : Int} (h : CmpB f g n r) (hs : ∀ i, i < n → bt f i = true → bt g i = true) : r ≤ 0 := by
  have hl := len_sub hs
  rcases h with ⟨h, rfl⟩ | ⟨h, rfl⟩ | ⟨h, ⟨rfl, h2⟩ | ⟨J, h1, h2, ⟨rfl, h3, h4⟩ | ⟨rfl, h3, h4⟩⟩⟩
  · omega
  · omega
  · omega
  · omega
  · -- a strict inclusion has fewer members
    exfalso
    have hlt : ∀ k, J < k → k ≤ n → (mem f k).length < (mem g k).length := by
      intro k
      induction k with
      | zero => intro h; omega
      | succ k ih =>
        intro hk hk2
        rw [len_succ, len_succ]
        by_cases e : k = J
        · subst e
          have := len_sub (n := k) (fun i hi => hs i (by omega))
          rw [h3, h4]; simp; omega
        · have := ih (by omega) (by omega)
          have h6 := hs k (by omega)
          cases hf : bt f k
          · simp; omega
          · rw [h6 hf]; simp; omega
    have := hlt n h1 (Nat.le_refl _)
    omega
/- .. is what Compare answers by words -/
theorem cwords_bit {x y : Nat} (hx : x < 18446744073709551616) (hy : y < 18446744073709551616) {j : Nat} (_hj : j < 64) (hl : ∀ i, i < j → x.testBit i = y.testBit i) (hd : x.testBit j ≠ y.testBit j) :
    x ≠ y ∧ cwords x y = if x.testBit j then -1 else 1 := by
  have hne : x ≠ y := fun h => hd (by rw [h])
  have hxor : x ^^^ y < 18446744073709551616 := Nat.xor_lt_two_pow (n := 64) hx hy
  have hbit : (x ^^^ y).testBit j = true := by
    rw [Nat.testBit_xor]
    cases h1 : x.testBit j <;> cases h2 : y.testBit j <;> simp [h1, h2] at hd ⊢
  have h0 : x ^^^ y ≠ 0 := fun h => by rw [h, Nat.zero_testBit] at hbit; cases hbit
  obtain ⟨c1, c2, c3⟩ := ctz_spec h0 hxor
  have hc : Lib.ctz 64 (x ^^^ y) = j := by
    rcases Nat.lt_trichotomy (Lib.ctz 64 (x ^^^ y)) j with h | h | h
    · rw [Nat.testBit_xor, hl _ h] at c2; simp at c2
    · exact h
    · rw [c3 j h] at hbit; cases hbit
  refine ⟨hne, ?_⟩
  unfold cwords
  rw [if_neg hne, hc]
theorem cmpW_of {f g : Nat → Nat} {m : Nat} {r : Int} (hu : U64 f m) (hv : U64 g m) (h : CmpB f g (64 * m) r) : CmpW f g m r := by
  unfold CmpW
  rw [cnt_mem, cnt_mem]
  rcases h with h | h | ⟨h, ⟨rfl, h2⟩ | ⟨J, h1, h2, h3⟩⟩
  · exact Or.inl h
  · exact Or.inr (Or.inl h)
  · exact Or.inr (Or.inr ⟨h, m, Nat.le_refl _, bt_ext hu hv h2, Or.inl ⟨rfl, rfl⟩⟩)
  · refine Or.inr (Or.inr ⟨h, J / 64, by omega, fun k hk => ?_, Or.inr ⟨by omega, ?_⟩⟩)
    · refine word_ext (hu k (by omega)) (hv k (by omega)) fun j hj => ?_
      rw [← bt_at f k j hj, ← bt_at g k j hj]
      exact h2 _ (by omega)
    · have hk : J / 64 < m := by omega
      have hd : (f (J / 64)).testBit (J % 64) ≠ (g (J / 64)).testBit (J % 64) := by
        rw [← bt_at2 f J, ← bt_at2 g J]
        rcases h3 with ⟨_, h4, h5⟩ | ⟨_, h4, h5⟩ <;> rw [h4, h5] <;> decide
      obtain ⟨q1, q2⟩ := cwords_bit (hu _ hk) (hv _ hk) (show J % 64 < 64 by omega) (fun i hi => by
        have := h2 (64 * (J / 64) + i) (by omega)
        rwa [bt_at f _ i (by omega), bt_at g _ i (by omega)] at this) hd
      refine ⟨q1, ?_⟩
      rw [q2, ← bt_at2 f J]
      rcases h3 with ⟨rfl, h4, _⟩ | ⟨rfl, h4, _⟩ <;> rw [h4] <;> rfl
end Go.Proofs.YtijghglppgihmaaDoor
