/- Lists of numbers sorted and made compact: they are the members of the set made of them. Clone, Sort and Compact in one form of words. -/
import Derived.Test.YtijghglppgihmaaDoorLawAlg
import Derived.Test.YtijghglppgihmaaDoorShelfSort
import Derived.Lib.OwnBridge
namespace Go.Proofs.YtijghglppgihmaaDoor
open Go.RowKit Go.Sort
theorem eq_of_lt : ∀ {a b : List Int}, a.Pairwise (· < ·) → b.Pairwise (· < ·) → (∀ x, x ∈ a ↔ x ∈ b) → a = b := by
  intro a
  induction a with
  | nil =>
    intro b _ _ h
    cases b with
    | nil => rfl
    | cons y b => exact absurd ((h y).2 (List.mem_cons_self ..)) (by simp)
  | cons x a ih =>
    intro b ha hb h
    cases b with
    | nil => exact absurd ((h x).1 (List.mem_cons_self ..)) (by simp)
    | cons y b =>
      obtain ⟨ha1, ha2⟩ := List.pairwise_cons.1 ha
      obtain ⟨hb1, hb2⟩ := List.pairwise_cons.1 hb
      have hxy : x = y := by
        rcases List.mem_cons.1 ((h x).1 (List.mem_cons_self ..)) with e | e
        · exact e
        · rcases List.mem_cons.1 ((h y).2 (List.mem_cons_self ..)) with e2 | e2
          · exact e2.symm
          · have := hb1 x e; have := ha1 y e2; omega
      subst hxy
      congr 1
      refine ih ha2 hb2 fun u => ⟨fun hu => ?_, fun hu => ?_⟩
      · rcases List.mem_cons.1 ((h u).1 (List.mem_cons_of_mem _ hu)) with e | e
        · have := ha1 u hu; omega
        · exact e
      · rcases List.mem_cons.1 ((h u).2 (List.mem_cons_of_mem _ hu)) with e | e
        · have := hb1 u hu; omega
        · exact e
theorem compact_inv (d : Array Int) (hm : ∀ i j, i ≤ j → j < d.size → d[i]! ≤ d[j]!) : ∀ m, m ≤ d.size → (∀ x, x ∈ Lib.compactUpTo d m ↔ ∃ j, j < m ∧ d[j]! = x) ∧ (Lib.compactUpTo d m).Pairwise (· < ·) := by
  intro m
  induction m with
  | zero => intro _; exact ⟨fun x => by simp [Lib.compactUpTo], by simp [Lib.compactUpTo]⟩
  | succ m ih =>
    intro hms
    obtain ⟨h1, h2⟩ := ih (by omega)
    rw [Lib.compactUpTo_succ]
    by_cases hk : Lib.keeps d m = true
    · rw [if_pos hk]
      have hk' : m = 0 ∨ d[m]! ≠ d[m - 1]! := of_decide_eq_true hk
      refine ⟨fun x => ?_, List.pairwise_append.2 ⟨h2, List.pairwise_singleton _ _, fun x hx y hy => ?_⟩⟩
      · rw [List.mem_append, h1, List.mem_singleton]
        constructor
        · rintro (⟨j, hj, e⟩ | e)
          · exact ⟨j, by omega, e⟩
          · exact ⟨m, by omega, e.symm⟩
        · rintro ⟨j, hj, e⟩
          by_cases ej : j = m
          · right; rw [← e, ej]
          · left; exact ⟨j, by omega, e⟩
      · obtain ⟨j, hj, rfl⟩ := (h1 x).1 hx
        rw [List.mem_singleton] at hy
        subst hy
        rcases hk' with h0 | h0
        · omega
        · have q1 := hm j (m - 1) (by omega) (by omega)
          have q2 := hm (m - 1) m (by omega) (by omega)
          omega
    · rw [if_neg hk, List.append_nil]
      have hk' : ¬ (m = 0 ∨ d[m]! ≠ d[m - 1]!) := fun h => hk (decide_eq_true h)
      have h0 : m ≠ 0 := fun h => hk' (Or.inl h)
      have he : d[m]! = d[m - 1]! := Classical.byContradiction fun h => hk' (Or.inr h)
      refine ⟨fun x => ?_, h2⟩
      rw [h1]
      constructor
      · rintro ⟨j, hj, e⟩; exact ⟨j, by omega, e⟩
      · rintro ⟨j, hj, e⟩
        by_cases ej : j = m
        · exact ⟨m - 1, by omega, by rw [← he, ← ej]; exact e⟩
        · exact ⟨j, by omega, e⟩
def srt (zs : List Int) : List Int := zs.mergeSort fun x y => decide (x ≤ y)
theorem srt_len (zs : List Int) : (srt zs).length = zs.length := List.length_mergeSort ..
theorem compact_srt (zs : List Int) : (∀ x, x ∈ Lib.compact (srt zs) ↔ x ∈ zs) ∧ (Lib.compact (srt zs)).Pairwise (· < ·) := by
  have hs : (srt zs).Pairwise fun x y => decide (x ≤ y) = true := List.pairwise_mergeSort (fun a b c h1 h2 => by simp only [decide_eq_true_eq] at *; omega) (fun a b => by simp only [Bool.or_eq_true, decide_eq_true_eq]; omega) zs
  have hg : ∀ i, (h : i < (srt zs).length) → (srt zs).toArray[i]! = (srt zs)[i] := fun i h => by simp [h]
  have := compact_inv (srt zs).toArray (fun i j hij hj => by
    have hj' : j < (srt zs).length := by simpa using hj
    rw [hg i (by omega), hg j hj']
    by_cases e : i = j
    · subst e; exact Int.le_refl _
    · exact of_decide_eq_true (List.pairwise_iff_getElem.1 hs i j (by omega) hj' (by omega))) (srt zs).length (by simp)
  refine ⟨fun x => ?_, this.2⟩
  rw [show Lib.compact (srt zs) = Lib.compactUpTo (srt zs).toArray (srt zs).length from rfl, this.1]
  have hmem : x ∈ srt zs ↔ x ∈ zs := List.mem_mergeSort
  rw [← hmem, List.mem_iff_getElem]
  constructor
  · rintro ⟨j, hj, e⟩; exact ⟨j, hj, by rw [← hg j hj]; exact e⟩
  · rintro ⟨j, hj, e⟩; exact ⟨j, hj, by rw [hg j hj]; exact e⟩
theorem back_sorted (z : Nat → Int) (lb N : Nat) (hz : ∀ k, k < lb → 0 ≤ z k ∧ z k < N) :
    Lib.compact (srt ((List.range lb).map z)) = (mem (ow (fun k => (z k).toNat) lb) N).map (fun i : Nat => (i : Int)) := by
  obtain ⟨h1, h2⟩ := compact_srt ((List.range lb).map z)
  refine eq_of_lt h2 ?_ fun x => ?_
  · refine List.pairwise_map.2 ?_
    have : (mem (ow (fun k => (z k).toNat) lb) N).Pairwise (· < ·) := List.Pairwise.filter _ List.pairwise_lt_range
    exact this.imp fun h => by omega
  · rw [h1, List.mem_map, List.mem_map]
    constructor
    · rintro ⟨k, hk, rfl⟩
      have hk' : k < lb := List.mem_range.1 hk
      have := hz k hk'
      exact ⟨(z k).toNat, mem_in.2 ⟨by omega, (bt_ow _ _ _).2 ⟨k, hk', rfl⟩⟩, by omega⟩
    · rintro ⟨i, hi, rfl⟩
      obtain ⟨_, h⟩ := mem_in.1 hi
      obtain ⟨k, hk, e⟩ := (bt_ow _ _ _).1 h
      have := hz k hk
      exact ⟨k, List.mem_range.2 hk, by omega⟩
theorem vld_ow (z : Nat → Nat) (n N : Nat) (hN : N ≤ 512) (hz : ∀ k, k < n → z k < N) : Vld N ((N + 63) / 64) (ow z n) := by
  refine ⟨by omega, by omega, by simp, fun i h1 h2 => ?_⟩
  cases hb : bt (ow z n) i
  · rfl
  · obtain ⟨j, hj, rfl⟩ := (bt_ow _ _ _).1 hb
    have := hz j hj
    simp only [Int.toNat_natCast] at h1
    omega
theorem gets_toNat (l : List Nat) (j : Nat) : (gets l j).toNat = l.getD j 0 := by unfold gets; omega
theorem back_words {N m : Nat} {f : Nat → Nat} (hu : U64 f m) (hf : Vld N m f) : ∀ k, k < m → ow (fun k => (gets (mem f N) k).toNat) (mem f N).length k = f k :=
  bt_ext (ow_u64 _ _ _) hu fun i hi => by
    rw [Bool.eq_iff_iff, bt_ow]
    constructor
    · rintro ⟨j, hj, e⟩
      have e2 : (mem f N)[j] = i := by rw [← e, gets_toNat, List.getD_eq_getElem?_getD, List.getElem?_eq_getElem hj]; rfl
      exact (mem_in.1 (e2 ▸ List.getElem_mem hj)).2
    · intro h
      obtain ⟨j, hj, e⟩ := List.mem_iff_getElem.1 (mem_in.2 ⟨in_n hf hi h, h⟩)
      exact ⟨j, hj, by show (gets (mem f N) j).toNat = i; rw [gets_toNat, List.getD_eq_getElem?_getD, List.getElem?_eq_getElem hj]; exact e⟩
theorem gets_lt {f : Nat → Nat} {N : Nat} (k : Nat) (hk : k < (mem f N).length) : 0 ≤ gets (mem f N) k ∧ gets (mem f N) k < N := by
  have h : (mem f N).getD k 0 ∈ mem f N := by rw [List.getD_eq_getElem?_getD, List.getElem?_eq_getElem hk]; exact List.getElem_mem hk
  have := (mem_in.1 h).1
  unfold gets; omega
/- a slice of the call's own that holds numbers -/
def OwnI (w : World) (base : Nat) (P : Option Addr) (n c : Nat) (zs : List Int) : Prop := zs.length = n ∧ n ≤ c ∧ (n = 0 ∨ ∃ g, P = some ⟨g, 0, none⟩ ∧ base ≤ g ∧ g < w.heap.size ∧ Holds (Value.int .i64) w g 0 zs.toArray)
theorem getD_range (z : Nat → Int) (lb j : Nat) (hj : j < lb) : ((List.range lb).map z).getD j 0 = z j := by simp [List.getD_eq_getElem?_getD, hj]
theorem clone_any (B : Option Addr) (lb cb : Nat) (z : Nat → Int) (w : World) (h : Ints w B lb z) (hl : lb ≤ 600) :
    Calls Tryd.prog 43 #[.slice B lb cb] w fun e w' => ∃ P c, e = .returned (.slice P lb c) ∧ OwnI w' w.heap.size P lb c ((List.range lb).map z) ∧ Below w.heap.size w w' := by
  by_cases h0 : lb = 0
  · subst h0
    cases B with
    | none => exact (Tryd.slices_Clone_int_nil 0 cb w).mono fun e w' ⟨he, hw⟩ => ⟨none, 0, he, ⟨rfl, Nat.le_refl _, Or.inl rfl⟩, by rw [hw]; exact Below.refl _ _⟩
    | some a =>
      refine (Tryd.slices_Clone_int_zero a cb w).mono fun e w' ⟨v, he, ho, hv, hb⟩ => ?_
      obtain ⟨g, c, rfl, _⟩ := Lib.holds_of_ownsRow (enc := Value.int .i64) (zs := []) ho hv
      exact ⟨_, c, he, ⟨rfl, Nat.zero_le _, Or.inl rfl⟩, hb⟩
  · obtain ⟨b, off, rfl, _, hc⟩ := h (by omega)
    refine (Tryd.slices_Clone_int b off lb cb ((List.range lb).map z) w (by simp) (by omega) (fun j hj => ?_)).mono fun e w' ⟨v, he, ho, hv, hb⟩ => ?_
    · have hj' : j < lb := by simpa using hj
      rw [getD_range z lb j hj']; exact hc j hj'
    · have et : ((List.range lb).map z).take lb = (List.range lb).map z := List.take_of_length_le (by simp)
      rw [et] at ho
      obtain ⟨g, c, rfl, hg, hlt, hnc, _, _, hh⟩ := Lib.holds_of_ownsRow ho hv
      exact ⟨_, c, he, ⟨by simp, hnc, Or.inr ⟨g, rfl, hg, hlt, hh⟩⟩, hb⟩
theorem below_grow (w : World) (os : Array Obj) : Below w.heap.size w (grow w os) :=
  ⟨rfl, rfl, rfl, by show w.heap.size ≤ (w.heap ++ os).size; rw [Array.size_append]; omega, fun _ hj => Sort.heap_grow_old w os hj⟩
theorem sort_any (P : Option Addr) (n c base : Nat) (zs : List Int) (w : World) (h : OwnI w base P n c zs) (hb : base ≤ w.heap.size) (hn : n ≤ 600) :
    Calls Tryd.prog 44 #[.slice P n c] w fun e w' => e = .returned (.tuple #[]) ∧ OwnI w' base P n c (srt zs) ∧ Below base w w' := by
  obtain ⟨rfl, hnc, hor⟩ := h
  rcases hor with h0 | ⟨g, rfl, hg, hlt, hh⟩
  · have hz : zs = [] := List.eq_nil_of_length_eq_zero h0
    subst hz
    exact (Tryd.slices_Sort_int_none P c w).mono fun e w' ⟨he, hw⟩ => ⟨he, ⟨by rw [srt_len], hnc, Or.inl rfl⟩, by rw [hw]; exact Below.refl _ _⟩
  · refine (Tryd.slices_Sort_int g 0 c zs w hh hlt (by omega)).mono fun e w' ⟨he, q, os, hw⟩ => ?_
    have hb1 : Below base w (putRow (Value.int .i64) (Sort.ahead w q) g 0 (srt zs).toArray) := Lib.below_putRow (Below.refl _ _) hg
    have hsz : (putRow (Value.int .i64) (Sort.ahead w q) g 0 (srt zs).toArray).heap.size = w.heap.size := by simp [putRow, mapBlock, Sort.ahead]
    have hb2 := below_grow (putRow (Value.int .i64) (Sort.ahead w q) g 0 (srt zs).toArray) os
    have hh1 := holds_putRow (Value.int .i64) (Sort.ahead w q) g 0 zs.toArray (srt zs).toArray hh (by simp [srt_len])
    have e1 : w' = grow (putRow (Value.int .i64) (Sort.ahead w q) g 0 (srt zs).toArray) os := hw
    rw [e1]
    refine ⟨he, ⟨srt_len zs, hnc, Or.inr ⟨g, rfl, hg, Nat.lt_of_lt_of_le hlt (by have := hb2.size; omega), fun j hj => ?_⟩⟩, hb1.trans (hb2.mono (by omega))⟩
    exact ⟨(hb2.cell (p := ⟨g, 0 + j, none⟩) (by show g < _; omega)).trans (hh1 j hj).1, (hb2.frozen (p := ⟨g, 0 + j, none⟩) (by show g < _; omega)).trans (hh1 j hj).2⟩
theorem compact_any (P : Option Addr) (n c base : Nat) (zs : List Int) (w : World) (h : OwnI w base P n c zs) (hn : n ≤ 600) :
    Calls Tryd.prog 45 #[.slice P n c] w fun e w' => e = .returned (.slice P (Lib.compact zs).length c) ∧ Ints w' P (Lib.compact zs).length (fun j => (Lib.compact zs).getD j 0) ∧ Below base w w' := by
  obtain ⟨rfl, hnc, hor⟩ := h
  rcases hor with h0 | ⟨g, rfl, hg, hlt, hh⟩
  · have hz : zs = [] := List.eq_nil_of_length_eq_zero h0
    subst hz
    exact (Tryd.slices_Compact_int_empty P c w).mono fun e w' ⟨he, hw⟩ => ⟨he, (fun h => absurd h (by decide)), by rw [hw]; exact Below.refl _ _⟩
  · have hcl := Lib.compact_length_le zs
    refine (Tryd.slices_Compact_int g 0 c zs w hh (by omega) hnc).mono fun e w' ⟨he, q, hw⟩ => ?_
    have hh1 := holds_putRow (Value.int .i64) (Sort.ahead w q) g 0 zs.toArray (Lib.compact zs ++ List.replicate (zs.length - (Lib.compact zs).length) 0).toArray hh (by simp; omega)
    have hsz : (putRow (Value.int .i64) (Sort.ahead w q) g 0 (Lib.compact zs ++ List.replicate (zs.length - (Lib.compact zs).length) 0).toArray).heap.size = w.heap.size := by simp [putRow, mapBlock, Sort.ahead]
    rw [hw]
    refine ⟨he, fun _ => ⟨g, 0, rfl, by omega, fun k hk => ?_⟩, Lib.below_putRow (Below.refl _ _) hg⟩
    have := (hh1 k (by simp; omega)).1
    rw [this, getElem!_pos _ k (by simp; omega)]
    simp [List.getElem_append_left hk, List.getD_eq_getElem?_getD, List.getElem?_eq_getElem hk]
end Go.Proofs.YtijghglppgihmaaDoor
