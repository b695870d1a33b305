/- Levels as mathematics: what the fold over the order gives; levels are unique; relaxation. -/
import Derived.Test.YtakjdihhbndcnaaDoorPLev
namespace Go.Proofs.YtakjdihhbndcnaaDoor
open Go.RowKit
def IsLev (n : Nat) (T : Nat → Nat → Bool) (L : Nat → Int) : Prop := (∀ i, i < n → ∀ j, j < n → T i j = true → L i < L j) ∧ ∀ j, j < n → 0 ≤ L j ∧ (L j = 0 ∨ ∃ i, i < n ∧ T i j = true ∧ L j = L i + 1)
theorem lev_le {n : Nat} {T : Nat → Nat → Bool} {L F : Nat → Int} (h : IsLev n T L) (h0 : ∀ j, j < n → 0 ≤ F j) (hF : ∀ i, i < n → ∀ j, j < n → T i j = true → F i < F j) : ∀ (d j : Nat), j < n → L j ≤ d → L j ≤ F j := by
  intro d
  induction d with
  | zero => intro j hj hd; have := h0 j hj; omega
  | succ d ih =>
    intro j hj hd
    rcases (h.2 j hj).2 with e | ⟨i, hi, ht, e⟩
    · have := h0 j hj; omega
    · have h1 := ih i hi (by omega)
      have h2 := hF i hi j hj ht
      omega
theorem lev_unique {n : Nat} {T : Nat → Nat → Bool} {L F : Nat → Int} (h : IsLev n T L) (h' : IsLev n T F) : ∀ j, j < n → L j = F j := fun j hj => by
  have h1 := lev_le h (fun j hj => (h'.2 j hj).1) h'.1 (L j).toNat j hj (by have := (h.2 j hj).1; omega)
  have h2 := lev_le h' (fun j hj => (h.2 j hj).1) h.1 (F j).toNat j hj (by have := (h'.2 j hj).1; omega)
  omega
theorem getD_lt {l : List Nat} {q : Nat} (h : q < l.length) : l.getD q 0 = l[q] := by rw [List.getD_eq_getElem?_getD, List.getElem?_eq_getElem h]; rfl
theorem lvP_take {l : Nat → Int} {x : Int} {m : List Nat} (hm : m.Nodup) (j : Nat) : ∀ q, q ≤ m.length → lvP l x m q j = if j ∈ m.take q then max (l j) x else l j
  | 0, _ => by simp [lvP]
  | q + 1, hq => by
    have ih := fun i => lvP_take (l := l) (x := x) hm i q (by omega)
    have hg : m.getD q 0 = m[q] := getD_lt (by omega)
    have hnin : m[q] ∉ m.take q := by
      intro hmem
      obtain ⟨k, hk⟩ := List.mem_iff_getElem?.1 hmem
      have hkq : k < q := by
        have := (List.getElem?_eq_some_iff.1 hk).1
        rw [List.length_take] at this; omega
      rw [List.getElem?_take_of_lt hkq] at hk
      obtain ⟨h1, h2⟩ := List.getElem?_eq_some_iff.1 hk
      rw [List.Nodup, List.pairwise_iff_getElem] at hm
      exact hm k q h1 (by omega) hkq h2
    show put (lvP l x m q) (m.getD q 0) (max (lvP l x m q (m.getD q 0)) x) j = _
    rw [hg, ih m[q], if_neg hnin]
    have hts : m.take (q + 1) = m.take q ++ [m[q]] := by rw [List.take_succ_eq_append_getElem (by omega)]
    unfold put
    by_cases e : j = m[q]
    · rw [if_pos e, if_pos (by rw [hts, e]; exact List.mem_append_right _ (List.mem_singleton.2 rfl)), e]
    · rw [if_neg e, ih j]
      by_cases hj : j ∈ m.take q
      · rw [if_pos hj, if_pos (by rw [hts]; exact List.mem_append_left _ hj)]
      · rw [if_neg hj, if_neg (by rw [hts]; exact fun h => (List.mem_append.1 h).elim hj (fun h => e (List.mem_singleton.1 h)))]
theorem rowL_mem {T : Nat → Nat → Bool} {n i j : Nat} : j ∈ rowL T n i ↔ j < n ∧ T i j = true := by unfold rowL; simp
theorem lvK_step {T : Nat → Nat → Bool} {n : Nat} {o : List Nat} {K j : Nat} (hj : j < n) : lvK T n o (K + 1) j = if T (o.getD K 0) j = true then max (lvK T n o K j) (lvK T n o K (o.getD K 0) + 1) else lvK T n o K j := by
  show lvP _ _ (rowL T n (o.getD K 0)) (rowL T n (o.getD K 0)).length j = _
  rw [lvP_take (rowL_nodup _ _ _) j _ (Nat.le_refl _), List.take_length]
  by_cases h : T (o.getD K 0) j = true
  · rw [if_pos h, if_pos (rowL_mem.2 ⟨hj, h⟩)]
  · rw [if_neg h, if_neg (fun hm => h (rowL_mem.1 hm).2)]
theorem lvK_mono {T : Nat → Nat → Bool} {n : Nat} {o : List Nat} {j : Nat} (hj : j < n) : ∀ (d K : Nat), lvK T n o K j ≤ lvK T n o (K + d) j
  | 0, _ => Int.le_refl _
  | d + 1, K => by
    have ih := lvK_mono (T := T) (o := o) hj d K
    have h1 : lvK T n o (K + (d + 1)) j = _ := lvK_step (K := K + d) hj
    rw [h1]
    split <;> omega
theorem nodup_at {l : List Nat} (h : l.Nodup) {i j : Nat} (hi : i < l.length) (hj : j < l.length) (e : l[i] = l[j]) : i = j := by
  rw [List.Nodup, List.pairwise_iff_getElem] at h
  rcases Nat.lt_trichotomy i j with hlt | he | hgt
  · exact absurd e (h i j hi hj hlt)
  · exact he
  · exact absurd e.symm (h j i hj hi hgt)
theorem lvK_stay {T : Nat → Nat → Bool} {n : Nat} {o : List Nat} (h : Topo T n o) {p : Nat} (hp : p < o.length) : ∀ d, p + d ≤ o.length → lvK T n o (p + d) o[p] = lvK T n o p o[p]
  | 0, _ => rfl
  | d + 1, hd => by
    have ih := lvK_stay h hp d (by omega)
    have hlt : ∀ x, x ∈ o → x < n := h.lt
    have h1 : lvK T n o (p + (d + 1)) o[p] = _ := lvK_step (K := p + d) (hlt _ (List.getElem_mem hp))
    rw [h1, if_neg, ih]
    intro ht
    rw [getD_lt (by omega)] at ht
    obtain ⟨q, hq, hqe⟩ := h.prec p o[p] (List.getElem?_eq_getElem hp) _ (hlt _ (List.getElem_mem _)) ht
    obtain ⟨h2, h3⟩ := List.getElem?_eq_some_iff.1 hqe
    have := nodup_at h.nodup h2 (by omega) h3
    omega
theorem topo_at {T : Nat → Nat → Bool} {n : Nat} {o : List Nat} (h : Topo T n o) (hl : o.length = n) {i : Nat} (hi : i < n) : ∃ p, ∃ hp : p < o.length, o[p] = i := by
  obtain ⟨p, hp⟩ := List.mem_iff_getElem?.1 (topo_all h hl i hi)
  obtain ⟨h1, h2⟩ := List.getElem?_eq_some_iff.1 hp
  exact ⟨p, h1, h2⟩
theorem lvK_from {T : Nat → Nat → Bool} {n : Nat} {o : List Nat} {j : Nat} (hj : j < n) : ∀ K, K ≤ o.length → lvK T n o K j = 0 ∨ ∃ p, ∃ hp : p < o.length, p < K ∧ T o[p] j = true ∧ lvK T n o K j = lvK T n o p o[p] + 1
  | 0, _ => .inl rfl
  | K + 1, hK => by
    have ih := lvK_from (T := T) (o := o) hj K (by omega)
    have hs := lvK_step (T := T) (o := o) (K := K) hj
    rw [getD_lt (by omega : K < o.length)] at hs
    by_cases ht : T o[K] j = true
    · rw [if_pos ht] at hs
      by_cases hm : lvK T n o K j ≤ lvK T n o K o[K] + 1
      · exact .inr ⟨K, by omega, by omega, ht, by omega⟩
      · rcases ih with e | ⟨p, hp, hpK, h1, h2⟩
        · have := (lvK_bound T n o K o[K]).1; omega
        · exact .inr ⟨p, hp, by omega, h1, by omega⟩
    · rw [if_neg ht] at hs
      rcases ih with e | ⟨p, hp, hpK, h1, h2⟩
      · exact .inl (by omega)
      · exact .inr ⟨p, hp, by omega, h1, by omega⟩
theorem lvK_end {T : Nat → Nat → Bool} {n : Nat} {o : List Nat} (h : Topo T n o) (hl : o.length = n) {p : Nat} (hp : p < o.length) : lvK T n o n o[p] = lvK T n o p o[p] := by
  have := lvK_stay h hp (n - p) (by omega)
  rwa [show p + (n - p) = n by omega] at this
theorem lvK_lev {T : Nat → Nat → Bool} {n : Nat} {o : List Nat} (h : Topo T n o) (hl : o.length = n) : IsLev n T (lvK T n o n) := by
  refine ⟨fun i hi j hj ht => ?_, fun j hj => ⟨(lvK_bound T n o n j).1, ?_⟩⟩
  · obtain ⟨p, hp, rfl⟩ := topo_at h hl hi
    rw [lvK_end h hl hp]
    have h1 := lvK_step (T := T) (o := o) (K := p) hj
    rw [getD_lt hp, if_pos ht] at h1
    have h2 := lvK_mono (T := T) (o := o) hj (n - (p + 1)) (p + 1)
    rw [show p + 1 + (n - (p + 1)) = n by omega] at h2
    omega
  · rcases lvK_from (T := T) (o := o) hj n (by omega) with e | ⟨p, hp, _, h1, h2⟩
    · exact .inl e
    · exact .inr ⟨o[p], h.lt _ (List.getElem_mem hp), h1, by rw [lvK_end h hl hp]; exact h2⟩
theorem lvK_lt {T : Nat → Nat → Bool} {n : Nat} {o : List Nat} (h : Topo T n o) (hl : o.length = n) {j : Nat} (hj : j < n) : lvK T n o n j < n := by
  obtain ⟨p, hp, rfl⟩ := topo_at h hl hj
  rw [lvK_end h hl hp]
  have := (lvK_bound T n o p o[p]).2
  omega
/- relaxation, as the reference has it: behind r whole rounds; within a round, behind the pairs before (I, J) -/
def RlR (n : Nat) (L F : Nat → Int) (r : Nat) : Prop := ∀ j, j < n → 0 ≤ F j ∧ F j ≤ L j ∧ min (L j) r ≤ F j
def Bfr (I J i j : Nat) : Prop := i < I ∨ (i = I ∧ j < J)
structure RlI (n : Nat) (T : Nat → Nat → Bool) (L F : Nat → Int) (r I J : Nat) (ch : Bool) : Prop where
  b : RlR n L F r
  c : ∀ i j, i < n → j < n → Bfr I J i j → T i j = true → min (L i) r + 1 ≤ F j
  d : ch = false → ∀ i j, i < n → j < n → Bfr I J i j → T i j = true → F i < F j
theorem RlI.begin {n : Nat} {T : Nat → Nat → Bool} {L F : Nat → Int} {r : Nat} (h : RlR n L F r) : RlI n T L F r 0 0 false :=
  ⟨h, fun i j _ _ hb => (by rcases hb with h | ⟨_, h⟩ <;> omega), fun _ i j _ _ hb => (by rcases hb with h | ⟨_, h⟩ <;> omega)⟩
theorem bfr_next {I J i j : Nat} (h : Bfr I (J + 1) i j) : Bfr I J i j ∨ (i = I ∧ j = J) := by
  rcases h with h | ⟨h1, h2⟩
  · exact .inl (.inl h)
  · by_cases e : j = J
    · exact .inr ⟨h1, e⟩
    · exact .inl (.inr ⟨h1, by omega⟩)
theorem RlI.row {n : Nat} {T : Nat → Nat → Bool} {L F : Nat → Int} {r I : Nat} {ch : Bool} (h : RlI n T L F r I n ch) : RlI n T L F r (I + 1) 0 ch := by
  have hb : ∀ i j, j < n → Bfr (I + 1) 0 i j → Bfr I n i j := fun i j hj h => by
    rcases h with h | ⟨_, h⟩
    · by_cases e : i = I
      · exact .inr ⟨e, hj⟩
      · exact .inl (by omega)
    · omega
  exact ⟨h.b, fun i j hi hj hh => h.c i j hi hj (hb i j hj hh), fun hc i j hi hj hh => h.d hc i j hi hj (hb i j hj hh)⟩
theorem RlI.no {n : Nat} {T : Nat → Nat → Bool} {L F : Nat → Int} {r I J : Nat} {ch : Bool} (h : RlI n T L F r I J ch) (hI : I < n) (hno : ¬ (T I J = true ∧ F J ≤ F I)) : RlI n T L F r I (J + 1) ch := by
  refine ⟨h.b, fun i j hi hj hb ht => ?_, fun hc i j hi hj hb ht => ?_⟩
  · rcases bfr_next hb with hb | ⟨rfl, rfl⟩
    · exact h.c i j hi hj hb ht
    · have := (h.b i hi).2.2
      have h2 : ¬ F j ≤ F i := fun hh => hno ⟨ht, hh⟩
      omega
  · rcases bfr_next hb with hb | ⟨rfl, rfl⟩
    · exact h.d hc i j hi hj hb ht
    · exact Int.not_le.1 fun hh => hno ⟨ht, hh⟩
theorem RlI.yes {n : Nat} {T : Nat → Nat → Bool} {L F : Nat → Int} {r I J : Nat} {ch : Bool} (hL : IsLev n T L) (h : RlI n T L F r I J ch) (hI : I < n) (hJ : J < n) (ht : T I J = true) (hle : F J ≤ F I) : RlI n T L (put F J (F I + 1)) r I (J + 1) true := by
  have hg : ∀ j, F j ≤ put F J (F I + 1) j := fun j => by
    unfold put
    by_cases e : j = J
    · rw [if_pos e, e]; omega
    · rw [if_neg e]; exact Int.le_refl _
  refine ⟨fun j hj => ?_, fun i j hi hj hb ht2 => ?_, fun hc => by cases hc⟩
  · have h1 := h.b j hj
    have h2 := hg j
    refine ⟨by omega, ?_, by omega⟩
    unfold put
    by_cases e : j = J
    · rw [if_pos e, e]
      have h3 := hL.1 I hI J hJ ht
      have h4 := h.b I hI
      omega
    · rw [if_neg e]; exact h1.2.1
  · rcases bfr_next hb with hb | ⟨rfl, rfl⟩
    · have := h.c i j hi hj hb ht2
      have := hg j
      omega
    · rw [put_same]
      have := (h.b i hi).2.2
      omega
theorem RlI.round {n : Nat} {T : Nat → Nat → Bool} {L F : Nat → Int} {r : Nat} {ch : Bool} (hL : IsLev n T L) (h : RlI n T L F r n 0 ch) : RlR n L F (r + 1) := fun j hj => by
  have h1 := h.b j hj
  refine ⟨h1.1, h1.2.1, ?_⟩
  rcases (hL.2 j hj).2 with e | ⟨i, hi, ht, e⟩
  · omega
  · have := h.c i j hi hj (.inl hi) ht
    omega
theorem RlI.done {n : Nat} {T : Nat → Nat → Bool} {L F : Nat → Int} {r : Nat} (hL : IsLev n T L) (h : RlI n T L F r n 0 false) : ∀ j, j < n → F j = L j := fun j hj => by
  have h1 := h.b j hj
  have h2 := lev_le hL (fun j hj => (h.b j hj).1) (fun i hi j hj ht => h.d rfl i j hi hj (.inl hi) ht) (L j).toNat j hj (by have := (hL.2 j hj).1; omega)
  omega
theorem RlR.end {n : Nat} {L F : Nat → Int} (h : RlR n L F n) (hb : ∀ j, j < n → L j ≤ n) : ∀ j, j < n → F j = L j := fun j hj => by
  have h1 := h j hj
  have h2 := hb j hj
  omega
end Go.Proofs.YtakjdihhbndcnaaDoor
