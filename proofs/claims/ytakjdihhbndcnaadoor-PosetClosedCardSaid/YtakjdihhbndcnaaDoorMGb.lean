/- Merged: PLvM, PMin, PRMn, PRDn. -/
import Derived.Test.YtakjdihhbndcnaaDoorPLev
import Derived.Test.YtakjdihhbndcnaaDoorPDwn
import Derived.Test.YtakjdihhbndcnaaDoorPRfV
import Derived.ArgAppend
/- Levels as mathematics: what the fold over the order gives; levels are unique; relaxation. -/
namespace Go.Proofs.YtakjdihhbndcnaaDoor
open Go.RowKit
def IsLev (n : Nat) (T : Nat → Nat → Bool) (L : Nat → Int) : Prop := (∀ i, i < n → ∀ j, j < n → T i j = true → L i < L j) ∧ ∀ j, j < n → 0 ≤ L j ∧ (L j = 0 ∨ ∃ i, i < n ∧ T i j = true ∧ L j = L i + 1)
theorem lev_le {n : Nat} {T : Nat → Nat → Bool} {L F : Nat → Int} (h : IsLev n T L) (h0 : ∀ j, j < n → 0 ≤ F j) (hF : ∀ i, i < n → ∀ j, j < n → T i j = true → F i < F j) : ∀ (d j : Nat), j < n → L j ≤ d → L j ≤ F j := by
  intro d
  induction d with
  | zero => intro j hj hd; have := h0 j hj; omega
  | succ d ih =>
    intro j hj hd
    rcases (h.2 j hj).2 with e | ⟨i, hi, ht, e⟩
    · have := h0 j hj; omega
    · have h1 := ih i hi (by omega)
      have h2 := hF i hi j hj ht
      omega
theorem lev_unique {n : Nat} {T : Nat → Nat → Bool} {L F : Nat → Int} (h : IsLev n T L) (h' : IsLev n T F) : ∀ j, j < n → L j = F j := fun j hj => by
  have h1 := lev_le h (fun j hj => (h'.2 j hj).1) h'.1 (L j).toNat j hj (by have := (h.2 j hj).1; omega)
  have h2 := lev_le h' (fun j hj => (h.2 j hj).1) h.1 (F j).toNat j hj (by have := (h'.2 j hj).1; omega)
  omega
theorem getD_lt {l : List Nat} {q : Nat} (h : q < l.length) : l.getD q 0 = l[q] := by rw [List.getD_eq_getElem?_getD, List.getElem?_eq_getElem h]; rfl
theorem lvP_take {l : Nat → Int} {x : Int} {m : List Nat} (hm : m.Nodup) (j : Nat) : ∀ q, q ≤ m.length → lvP l x m q j = if j ∈ m.take q then max (l j) x else l j
  | 0, _ => by simp [lvP]
  | q + 1, hq => by
    have ih := fun i => lvP_take (l := l) (x := x) hm i q (by omega)
    have hg : m.getD q 0 = m[q] := getD_lt (by omega)
    have hnin : m[q] ∉ m.take q := by
      intro hmem
      obtain ⟨k, hk⟩ := List.mem_iff_getElem?.1 hmem
      have hkq : k < q := by
        have := (List.getElem?_eq_some_iff.1 hk).1
        rw [List.length_take] at this; omega
      rw [List.getElem?_take_of_lt hkq] at hk
      obtain ⟨h1, h2⟩ := List.getElem?_eq_some_iff.1 hk
      rw [List.Nodup, List.pairwise_iff_getElem] at hm
      exact hm k q h1 (by omega) hkq h2
    show put (lvP l x m q) (m.getD q 0) (max (lvP l x m q (m.getD q 0)) x) j = _
    rw [hg, ih m[q], if_neg hnin]
    have hts : m.take (q + 1) = m.take q ++ [m[q]] := by rw [List.take_succ_eq_append_getElem (by omega)]
    unfold put
    by_cases e : j = m[q]
    · rw [if_pos e, if_pos (by rw [hts, e]; exact List.mem_append_right _ (List.mem_singleton.2 rfl)), e]
    · rw [if_neg e, ih j]
      by_cases hj : j ∈ m.take q
      · rw [if_pos hj, if_pos (by rw [hts]; exact List.mem_append_left _ hj)]
      · rw [if_neg hj, if_neg (by rw [hts]; exact fun h => (List.mem_append.1 h).elim hj (fun h => e (List.mem_singleton.1 h)))]
theorem rowL_mem {T : Nat → Nat → Bool} {n i j : Nat} : j ∈ rowL T n i ↔ j < n ∧ T i j = true := by unfold rowL; simp
theorem lvK_step {T : Nat → Nat → Bool} {n : Nat} {o : List Nat} {K j : Nat} (hj : j < n) : lvK T n o (K + 1) j = if T (o.getD K 0) j = true then max (lvK T n o K j) (lvK T n o K (o.getD K 0) + 1) else lvK T n o K j := by
  show lvP _ _ (rowL T n (o.getD K 0)) (rowL T n (o.getD K 0)).length j = _
  rw [lvP_take (rowL_nodup _ _ _) j _ (Nat.le_refl _), List.take_length]
  by_cases h : T (o.getD K 0) j = true
  · rw [if_pos h, if_pos (rowL_mem.2 ⟨hj, h⟩)]
  · rw [if_neg h, if_neg (fun hm => h (rowL_mem.1 hm).2)]
theorem lvK_mono {T : Nat → Nat → Bool} {n : Nat} {o : List Nat} {j : Nat} (hj : j < n) : ∀ (d K : Nat), lvK T n o K j ≤ lvK T n o (K + d) j
  | 0, _ => Int.le_refl _
  | d + 1, K => by
    have ih := lvK_mono (T := T) (o := o) hj d K
    have h1 : lvK T n o (K + (d + 1)) j = _ := lvK_step (K := K + d) hj
    rw [h1]
    split <;> omega
theorem nodup_at {l : List Nat} (h : l.Nodup) {i j : Nat} (hi : i < l.length) (hj : j < l.length) (e : l[i] = l[j]) : i = j := by
  rw [List.Nodup, List.pairwise_iff_getElem] at h
  rcases Nat.lt_trichotomy i j with hlt | he | hgt
  · exact absurd e (h i j hi hj hlt)
  · exact he
  · exact absurd e.symm (h j i hj hi hgt)
theorem lvK_stay {T : Nat → Nat → Bool} {n : Nat} {o : List Nat} (h : Topo T n o) {p : Nat} (hp : p < o.length) : ∀ d, p + d ≤ o.length → lvK T n o (p + d) o[p] = lvK T n o p o[p]
  | 0, _ => rfl
  | d + 1, hd => by
    have ih := lvK_stay h hp d (by omega)
    have hlt : ∀ x, x ∈ o → x < n := h.lt
    have h1 : lvK T n o (p + (d + 1)) o[p] = _ := lvK_step (K := p + d) (hlt _ (List.getElem_mem hp))
    rw [h1, if_neg, ih]
    intro ht
    rw [getD_lt (by omega)] at ht
    obtain ⟨q, hq, hqe⟩ := h.prec p o[p] (List.getElem?_eq_getElem hp) _ (hlt _ (List.getElem_mem _)) ht
    obtain ⟨h2, h3⟩ := List.getElem?_eq_some_iff.1 hqe
    have := nodup_at h.nodup h2 (by omega) h3
    omega
theorem topo_at {T : Nat → Nat → Bool} {n : Nat} {o : List Nat} (h : Topo T n o) (hl : o.length = n) {i : Nat} (hi : i < n) : ∃ p, ∃ hp : p < o.length, o[p] = i := by
  obtain ⟨p, hp⟩ := List.mem_iff_getElem?.1 (topo_all h hl i hi)
  obtain ⟨h1, h2⟩ := List.getElem?_eq_some_iff.1 hp
  exact ⟨p, h1, h2⟩
theorem lvK_from {T : Nat → Nat → Bool} {n : Nat} {o : List Nat} {j : Nat} (hj : j < n) : ∀ K, K ≤ o.length → lvK T n o K j = 0 ∨ ∃ p, ∃ hp : p < o.length, p < K ∧ T o[p] j = true ∧ lvK T n o K j = lvK T n o p o[p] + 1
  | 0, _ => .inl rfl
  | K + 1, hK => by
    have ih := lvK_from (T := T) (o := o) hj K (by omega)
    have hs := lvK_step (T := T) (o := o) (K := K) hj
    rw [getD_lt (by omega : K < o.length)] at hs
    by_cases ht : T o[K] j = true
    · rw [if_pos ht] at hs
      by_cases hm : lvK T n o K j ≤ lvK T n o K o[K] + 1
      · exact .inr ⟨K, by omega, by omega, ht, by omega⟩
      · rcases ih with e | ⟨p, hp, hpK, h1, h2⟩
        · have := (lvK_bound T n o K o[K]).1; omega
        · exact .inr ⟨p, hp, by omega, h1, by omega⟩
    · rw [if_neg ht] at hs
      rcases ih with e | ⟨p, hp, hpK, h1, h2⟩
      · exact .inl (by omega)
      · exact .inr ⟨p, hp, by omega, h1, by omega⟩
theorem lvK_end {T : Nat → Nat → Bool} {n : Nat} {o : List Nat} (h : Topo T n o) (hl : o.length = n) {p : Nat} (hp : p < o.length) : lvK T n o n o[p] = lvK T n o p o[p] := by
  have := lvK_stay h hp (n - p) (by omega)
  rwa [show p + (n - p) = n by omega] at this
theorem lvK_lev {T : Nat → Nat → Bool} {n : Nat} {o : List Nat} (h : Topo T n o) (hl : o.length = n) : IsLev n T (lvK T n o n) := by
  refine ⟨fun i hi j hj ht => ?_, fun j hj => ⟨(lvK_bound T n o n j).1, ?_⟩⟩
  · obtain ⟨p, hp, rfl⟩ := topo_at h hl hi
    rw [lvK_end h hl hp]
    have h1 := lvK_step (T := T) (o := o) (K := p) hj
    rw [getD_lt hp, if_pos ht] at h1
    have h2 := lvK_mono (T := T) (o := o) hj (n - (p + 1)) (p + 1)
    rw [show p + 1 + (n - (p + 1)) = n by omega] at h2
    omega
  · rcases lvK_from (T := T) (o := o) hj n (by omega) with e | ⟨p, hp, _, h1, h2⟩
    · exact .inl e
    · exact .inr ⟨o[p], h.lt _ (List.getElem_mem hp), h1, by rw [lvK_end h hl hp]; exact h2⟩
theorem lvK_lt {T : Nat → Nat → Bool} {n : Nat} {o : List Nat} (h : Topo T n o) (hl : o.length = n) {j : Nat} (hj : j < n) : lvK T n o n j < n := by
  obtain ⟨p, hp, rfl⟩ := topo_at h hl hj
  rw [lvK_end h hl hp]
  have := (lvK_bound T n o p o[p]).2
  omega
/- relaxation, as the reference has it: behind r whole rounds; within a round, behind the pairs before (I, J) -/
def RlR (n : Nat) (L F : Nat → Int) (r : Nat) : Prop := ∀ j, j < n → 0 ≤ F j ∧ F j ≤ L j ∧ min (L j) r ≤ F j
def Bfr (I J i j : Nat) : Prop := i < I ∨ (i = I ∧ j < J)
structure RlI (n : Nat) (T : Nat → Nat → Bool) (L F : Nat → Int) (r I J : Nat) (ch : Bool) : Prop where
  b : RlR n L F r
  c : ∀ i j, i < n → j < n → Bfr I J i j → T i j = true → min (L i) r + 1 ≤ F j
  d : ch = false → ∀ i j, i < n → j < n → Bfr I J i j → T i j = true → F i < F j
theorem RlI.begin {n : Nat} {T : Nat → Nat → Bool} {L F : Nat → Int} {r : Nat} (h : RlR n L F r) : RlI n T L F r 0 0 false :=
  ⟨h, fun i j _ _ hb => (by rcases hb with h | ⟨_, h⟩ <;> omega), fun _ i j _ _ hb => (by rcases hb with h | ⟨_, h⟩ <;> omega)⟩
theorem bfr_next {I J i j : Nat} (h : Bfr I (J + 1) i j) : Bfr I J i j ∨ (i = I ∧ j = J) := by
  rcases h with h | ⟨h1, h2⟩
  · exact .inl (.inl h)
  · by_cases e : j = J
    · exact .inr ⟨h1, e⟩
    · exact .inl (.inr ⟨h1, by omega⟩)
theorem RlI.row {n : Nat} {T : Nat → Nat → Bool} {L F : Nat → Int} {r I : Nat} {ch : Bool} (h : RlI n T L F r I n ch) : RlI n T L F r (I + 1) 0 ch := by
  have hb : ∀ i j, j < n → Bfr (I + 1) 0 i j → Bfr I n i j := fun i j hj h => by
    rcases h with h | ⟨_, h⟩
    · by_cases e : i = I
      · exact .inr ⟨e, hj⟩
      · exact .inl (by omega)
    · omega
  exact ⟨h.b, fun i j hi hj hh => h.c i j hi hj (hb i j hj hh), fun hc i j hi hj hh => h.d hc i j hi hj (hb i j hj hh)⟩
theorem RlI.no {n : Nat} {T : Nat → Nat → Bool} {L F : Nat → Int} {r I J : Nat} {ch : Bool} (h : RlI n T L F r I J ch) (hI : I < n) (hno : ¬ (T I J = true ∧ F J ≤ F I)) : RlI n T L F r I (J + 1) ch := by
  refine ⟨h.b, fun i j hi hj hb ht => ?_, fun hc i j hi hj hb ht => ?_⟩
  · rcases bfr_next hb with hb | ⟨rfl, rfl⟩
    · exact h.c i j hi hj hb ht
    · have := (h.b i hi).2.2
      have h2 : ¬ F j ≤ F i := fun hh => hno ⟨ht, hh⟩
      omega
  · rcases bfr_next hb with hb | ⟨rfl, rfl⟩
    · exact h.d hc i j hi hj hb ht
    · exact Int.not_le.1 fun hh => hno ⟨ht, hh⟩
theorem RlI.yes {n : Nat} {T : Nat → Nat → Bool} {L F : Nat → Int} {r I J : Nat} {ch : Bool} (hL : IsLev n T L) (h : RlI n T L F r I J ch) (hI : I < n) (hJ : J < n) (ht : T I J = true) (hle : F J ≤ F I) : RlI n T L (put F J (F I + 1)) r I (J + 1) true := by
  have hg : ∀ j, F j ≤ put F J (F I + 1) j := fun j => by
    unfold put
    by_cases e : j = J
    · rw [if_pos e, e]; omega
    · rw [if_neg e]; exact Int.le_refl _
  refine ⟨fun j hj => ?_, fun i j hi hj hb ht2 => ?_, fun hc => by cases hc⟩
  · have h1 := h.b j hj
    have h2 := hg j
    refine ⟨by omega, ?_, by omega⟩
    unfold put
    by_cases e : j = J
    · rw [if_pos e, e]
      have h3 := hL.1 I hI J hJ ht
      have h4 := h.b I hI
      omega
    · rw [if_neg e]; exact h1.2.1
  · rcases bfr_next hb with hb | ⟨rfl, rfl⟩
    · have := h.c i j hi hj hb ht2
      have := hg j
      omega
    · rw [put_same]
      have := (h.b i hi).2.2
      omega
theorem RlI.round {n : Nat} {T : Nat → Nat → Bool} {L F : Nat → Int} {r : Nat} {ch : Bool} (hL : IsLev n T L) (h : RlI n T L F r n 0 ch) : RlR n L F (r + 1) := fun j hj => by
  have h1 := h.b j hj
  refine ⟨h1.1, h1.2.1, ?_⟩
  rcases (hL.2 j hj).2 with e | ⟨i, hi, ht, e⟩
  · omega
  · have := h.c i j hi hj (.inl hi) ht
    omega
theorem RlI.done {n : Nat} {T : Nat → Nat → Bool} {L F : Nat → Int} {r : Nat} (hL : IsLev n T L) (h : RlI n T L F r n 0 false) : ∀ j, j < n → F j = L j := fun j hj => by
  have h1 := h.b j hj
  have h2 := lev_le hL (fun j hj => (h.b j hj).1) (fun i hi j hj ht => h.d rfl i j hi hj (.inl hi) ht) (L j).toNat j hj (by have := (hL.2 j hj).1; omega)
  omega
theorem RlR.end {n : Nat} {L F : Nat → Int} (h : RlR n L F n) (hb : ∀ j, j < n → L j ≤ n) : ∀ j, j < n → F j = L j := fun j hj => by
  have h1 := h j hj
  have h2 := hb j hj
  omega
end Go.Proofs.YtakjdihhbndcnaaDoor
/- Package poset: Minimal, Maximal. -/
namespace Go.Proofs.YtakjdihhbndcnaaDoor
open Go.RowKit Go.Sort
set_option maxRecDepth 100000 in
set_option maxHeartbeats 4000000 in
theorem elements61 (n c : Nat) (A : Option Addr) (pG : Nat) (T : Nat → Bool) (w : World) (hn : n ≤ 512) (hcl : ∀ i, i < n → ∀ u, Below w.heap.size w u → Calls Tryd.prog 61 #[.int .i64 i, .pointer (some ⟨pG, 0, none⟩)] u fun e w' => e = .returned (.bool (T i)) ∧ Below u.heap.size u w') :
    Calls Tryd.prog 60 #[.agg #[.slice A n c], .func (Fn.func 61) #[] #[.pointer (some ⟨pG, 0, none⟩)]] w (SetEnd w n (setF (tl T true n))) := by
  have HCL := Lib.hid hcl; clear hcl
  have r0 := (relAt_new w A n c).alloc (.cells #[.int .i64 0, .slice none 0 0] 37)
  have s0 := setAt_new (w.alloc (.cells #[.slice A n c] 24)) 0 none 0 0
  have hz : (w.alloc (.cells #[.slice A n c] 24)).heap.size = w.heap.size + 1 := by simp
  rw [hz] at s0
  have b0 : Below w.heap.size w ((w.alloc (.cells #[.slice A n c] 24)).alloc (.cells #[.int .i64 0, .slice none 0 0] 37)) := ((Below.refl _ _).alloc (Nat.le_refl _) _).alloc (by simp) _
  clear hz
  go_enter Tryd.func60, Tryd.ntmps60
  go_upto_region 1 with fail
  generalize (w.alloc (.cells #[.slice A n c] 24)).alloc (.cells #[.int .i64 0, .slice none 0 0] 37) = W at *
  have c0 := r0.c0
  go_wp2_with fail
  clear c0
  go_loopw [6, 14] (fun v i wr => ∃ K : Nat, K ≤ n ∧ i = .int .i64 K ∧ wr.ownsRow (w.heap.size + 2) 3 1 v (tl T true K).length (vals (tl T true K)) ∧ SetAt wr (w.heap.size + 1) 0 none 0 0 ∧ Below w.heap.size w wr) (fun _ i _ => n - (intOf i).toNat)
  case atStart => exact ⟨0, Nat.zero_le _, rfl, ⟨rfl, .inl ⟨rfl, rfl⟩⟩, s0, b0⟩
  case round =>
    clear s0 b0 r0
    obtain ⟨K, hK, rfl, hown, hS, hB⟩ := hrel
    by_cases hlt : K < n
    · have hwrap : IntKind.i64.wrap ((K : Int) + 1) = (K : Int) + 1 := IntWalk.i64_in _ (by omega)
      have hll := tl_len T true K
      have HC := Lib.hid (HCL.out K hlt wr hB)
      obtain ⟨vb, hvb⟩ : ∃ v, T K = v := ⟨_, rfl⟩
      rw [hvb] at HC
      go_wp2_with fail
      refine HC.out.mono ?_; rintro e w2 ⟨rfl, b2⟩
      have hown2 := own_below hown b2
      have hS2 := hS.below b2
      have hB2 := below_next hB b2
      have hsl := hS2.lt
      clear hown hS hB b2 HC
      cases vb with
      | true =>
        have hst : Hid (tl T true (K + 1) = tl T true K ++ [K]) := tl_yes hvb
        obtain ⟨l, hl⟩ : ∃ l, l = tl T true K := ⟨_, rfl⟩
        rw [← hl] at hown2 hst hll
        clear hl hvb
        have hownA := hown2.alloc (.cells #[.int .i64 (K : Int)] 3)
        have hSA := hS2.alloc (.cells #[.int .i64 (K : Int)] 3)
        go_wp2_with (at_builtin; refine append_nat rfl (.tmp 20) (.tmp 22) rfl (w.heap.size + 2) _ l K K _ rfl hownA w2.heap.size rfl (heap_alloc_new _ _) rfl (by omega) (by simp; omega) ?_; intro g9 c9 w9 hown9 hg9 hat9)
        go_roundw
        case rel => exact ⟨K + 1, hlt, by go_num, by rw [hst.out, List.length_append]; exact hown9, (hg9.block _ hSA.lt (fun e => by have := (hown2.lt _ e.symm).1; omega)).trans hSA, grown_below hB2 hown2 (by omega) hg9⟩
        case measure => simp [intOf]; omega
      | false =>
        have hst : Hid (tl T true (K + 1) = tl T true K) := tl_no (by rw [hvb]; exact Bool.false_ne_true)
        clear hvb
        go_wp2_with fail
        go_roundw
        case rel => exact ⟨K + 1, hlt, by go_num, by rw [hst.out]; exact hown2, hS2, hB2⟩
        case measure => simp [intOf]; omega
    · obtain rfl : K = n := by omega
      have hsl := hS.lt
      have hll := tl_len T true K
      have HO := Lib.hid (of_list K u6 (w.heap.size + 2) (tl T true K) wr hn hown (by omega) (fun x hx => (tl_mem.1 hx).1))
      generalize hmw : (K + 63) / 64 = mw at *
      have HMW := Lib.hid hmw
      clear hmw hown
      go_wp2_with fail
      refine HO.out.mono ?_; rintro e w3 ⟨gW, rfl, hgW, hrow, b3⟩
      have hS3 := hS.below b3
      have hB3 := below_next hB b3
      have bA : Below w3.heap.size w3 (w3.alloc (.cells #[.int .i64 K, .slice (some ⟨gW, 0, none⟩) mw mw] 37)) := (Below.refl _ _).alloc (Nat.le_refl _) _
      have hS4 := hS3.alloc (.cells #[.int .i64 K, .slice (some ⟨gW, 0, none⟩) mw mw] 37)
      have hB4 := below_next hB3 bA
      have hrow4 := row_below hrow bA
      have hX := setAt_new w3 K (some ⟨gW, 0, none⟩) mw mw
      have hwl := hrow.lt
      go_upto_region 10 with fail
      generalize w3.alloc (.cells #[.int .i64 K, .slice (some ⟨gW, 0, none⟩) mw mw] 37) = w4 at *
      have c0 := hX.c0
      have c1 := hX.c1
      have r0 := hS4.c0
      have r1 := hS4.c1
      have f0 := hS4.free 0
      have f1 := hS4.free 1
      have hgne : gW ≠ w.heap.size + 1 := by omega
      have s5 := setAt_put (N' := (K : Int)) (A' := some ⟨gW, 0, none⟩) (l' := mw) (c' := mw) hS4
      have k0 := s5.c0
      have k1 := s5.c1
      have hrow5 := (hrow4.setOther (a := ⟨w.heap.size + 1, 0, none⟩) (by exact hgne) (.int .i64 (K : Int))).setOther (a := ⟨w.heap.size + 1, 1, none⟩) (by exact hgne) (.slice (some ⟨gW, 0, none⟩) mw mw)
      have hB5 := (hB4.setCell (p := ⟨w.heap.size + 1, 0, none⟩) (by exact Nat.le_succ _) (.int .i64 (K : Int))).setCell (p := ⟨w.heap.size + 1, 1, none⟩) (by exact Nat.le_succ _) (.slice (some ⟨gW, 0, none⟩) mw mw)
      clear hS hS3 hB3 bA hB4 hrow4 hrow
      go_wp2_with fail
      refine bodyPost_ret (v := .agg #[.int .i64 K, .slice (some ⟨gW, 0, none⟩) mw mw]) (by simp [results, Tryd.results60, go_sem, k0, k1]) rfl ?_
      exact ⟨gW, by rw [HMW.out], by omega, by rw [HMW.out]; exact hrow5, hB5⟩
set_option maxRecDepth 100000 in
set_option maxHeartbeats 4000000 in
theorem elements62 (n c : Nat) (A : Option Addr) (pR : Nat) (T : Nat → Bool) (w : World) (hn : n ≤ 512) (hcl : ∀ i, i < n → ∀ u, Below w.heap.size w u → Calls Tryd.prog 62 #[.int .i64 i, .pointer (some ⟨pR, 0, none⟩)] u fun e w' => e = .returned (.bool (T i)) ∧ Below u.heap.size u w') :
    Calls Tryd.prog 60 #[.agg #[.slice A n c], .func (Fn.func 62) #[] #[.pointer (some ⟨pR, 0, none⟩)]] w (SetEnd w n (setF (tl T true n))) := by
  have HCL := Lib.hid hcl; clear hcl
  have r0 := (relAt_new w A n c).alloc (.cells #[.int .i64 0, .slice none 0 0] 37)
  have s0 := setAt_new (w.alloc (.cells #[.slice A n c] 24)) 0 none 0 0
  have hz : (w.alloc (.cells #[.slice A n c] 24)).heap.size = w.heap.size + 1 := by simp
  rw [hz] at s0
  have b0 : Below w.heap.size w ((w.alloc (.cells #[.slice A n c] 24)).alloc (.cells #[.int .i64 0, .slice none 0 0] 37)) := ((Below.refl _ _).alloc (Nat.le_refl _) _).alloc (by simp) _
  clear hz
  go_enter Tryd.func60, Tryd.ntmps60
  go_upto_region 1 with fail
  generalize (w.alloc (.cells #[.slice A n c] 24)).alloc (.cells #[.int .i64 0, .slice none 0 0] 37) = W at *
  have c0 := r0.c0
  go_wp2_with fail
  clear c0
  go_loopw [6, 14] (fun v i wr => ∃ K : Nat, K ≤ n ∧ i = .int .i64 K ∧ wr.ownsRow (w.heap.size + 2) 3 1 v (tl T true K).length (vals (tl T true K)) ∧ SetAt wr (w.heap.size + 1) 0 none 0 0 ∧ Below w.heap.size w wr) (fun _ i _ => n - (intOf i).toNat)
  case atStart => exact ⟨0, Nat.zero_le _, rfl, ⟨rfl, .inl ⟨rfl, rfl⟩⟩, s0, b0⟩
  case round =>
    clear s0 b0 r0
    obtain ⟨K, hK, rfl, hown, hS, hB⟩ := hrel
    by_cases hlt : K < n
    · have hwrap : IntKind.i64.wrap ((K : Int) + 1) = (K : Int) + 1 := IntWalk.i64_in _ (by omega)
      have hll := tl_len T true K
      have HC := Lib.hid (HCL.out K hlt wr hB)
      obtain ⟨vb, hvb⟩ : ∃ v, T K = v := ⟨_, rfl⟩
      rw [hvb] at HC
      go_wp2_with fail
      refine HC.out.mono ?_; rintro e w2 ⟨rfl, b2⟩
      have hown2 := own_below hown b2
      have hS2 := hS.below b2
      have hB2 := below_next hB b2
      have hsl := hS2.lt
      clear hown hS hB b2 HC
      cases vb with
      | true =>
        have hst : Hid (tl T true (K + 1) = tl T true K ++ [K]) := tl_yes hvb
        obtain ⟨l, hl⟩ : ∃ l, l = tl T true K := ⟨_, rfl⟩
        rw [← hl] at hown2 hst hll
        clear hl hvb
        have hownA := hown2.alloc (.cells #[.int .i64 (K : Int)] 3)
        have hSA := hS2.alloc (.cells #[.int .i64 (K : Int)] 3)
        go_wp2_with (at_builtin; refine append_nat rfl (.tmp 20) (.tmp 22) rfl (w.heap.size + 2) _ l K K _ rfl hownA w2.heap.size rfl (heap_alloc_new _ _) rfl (by omega) (by simp; omega) ?_; intro g9 c9 w9 hown9 hg9 hat9)
        go_roundw
        case rel => exact ⟨K + 1, hlt, by go_num, by rw [hst.out, List.length_append]; exact hown9, (hg9.block _ hSA.lt (fun e => by have := (hown2.lt _ e.symm).1; omega)).trans hSA, grown_below hB2 hown2 (by omega) hg9⟩
        case measure => simp [intOf]; omega
      | false =>
        have hst : Hid (tl T true (K + 1) = tl T true K) := tl_no (by rw [hvb]; exact Bool.false_ne_true)
        clear hvb
        go_wp2_with fail
        go_roundw
        case rel => exact ⟨K + 1, hlt, by go_num, by rw [hst.out]; exact hown2, hS2, hB2⟩
        case measure => simp [intOf]; omega
    · obtain rfl : K = n := by omega
      have hsl := hS.lt
      have hll := tl_len T true K
      have HO := Lib.hid (of_list K u6 (w.heap.size + 2) (tl T true K) wr hn hown (by omega) (fun x hx => (tl_mem.1 hx).1))
      generalize hmw : (K + 63) / 64 = mw at *
      have HMW := Lib.hid hmw
      clear hmw hown
      go_wp2_with fail
      refine HO.out.mono ?_; rintro e w3 ⟨gW, rfl, hgW, hrow, b3⟩
      have hS3 := hS.below b3
      have hB3 := below_next hB b3
      have bA : Below w3.heap.size w3 (w3.alloc (.cells #[.int .i64 K, .slice (some ⟨gW, 0, none⟩) mw mw] 37)) := (Below.refl _ _).alloc (Nat.le_refl _) _
      have hS4 := hS3.alloc (.cells #[.int .i64 K, .slice (some ⟨gW, 0, none⟩) mw mw] 37)
      have hB4 := below_next hB3 bA
      have hrow4 := row_below hrow bA
      have hX := setAt_new w3 K (some ⟨gW, 0, none⟩) mw mw
      have hwl := hrow.lt
      go_upto_region 10 with fail
      generalize w3.alloc (.cells #[.int .i64 K, .slice (some ⟨gW, 0, none⟩) mw mw] 37) = w4 at *
      have c0 := hX.c0
      have c1 := hX.c1
      have r0 := hS4.c0
      have r1 := hS4.c1
      have f0 := hS4.free 0
      have f1 := hS4.free 1
      have hgne : gW ≠ w.heap.size + 1 := by omega
      have s5 := setAt_put (N' := (K : Int)) (A' := some ⟨gW, 0, none⟩) (l' := mw) (c' := mw) hS4
      have k0 := s5.c0
      have k1 := s5.c1
      have hrow5 := (hrow4.setOther (a := ⟨w.heap.size + 1, 0, none⟩) (by exact hgne) (.int .i64 (K : Int))).setOther (a := ⟨w.heap.size + 1, 1, none⟩) (by exact hgne) (.slice (some ⟨gW, 0, none⟩) mw mw)
      have hB5 := (hB4.setCell (p := ⟨w.heap.size + 1, 0, none⟩) (by exact Nat.le_succ _) (.int .i64 (K : Int))).setCell (p := ⟨w.heap.size + 1, 1, none⟩) (by exact Nat.le_succ _) (.slice (some ⟨gW, 0, none⟩) mw mw)
      clear hS hS3 hB3 bA hB4 hrow4 hrow
      go_wp2_with fail
      refine bodyPost_ret (v := .agg #[.int .i64 K, .slice (some ⟨gW, 0, none⟩) mw mw]) (by simp [results, Tryd.results60, go_sem, k0, k1]) rfl ?_
      exact ⟨gW, by rw [HMW.out], by omega, by rw [HMW.out]; exact hrow5, hB5⟩
theorem min1_any (q g n i : Nat) (F : Nat → Bool) (w : World) (hx : w.heap[q]? = some (.cells #[.slice (some ⟨g, 0, none⟩) n n] 63 (0, 0))) (hr : w.rowIs g 4 n (fun k => .bool (F k))) (hi : i < n) :
    Calls Tryd.prog 61 #[.int .i64 i, .pointer (some ⟨q, 0, none⟩)] w fun e w' => e = .returned (.bool (!F i)) ∧ Below w.heap.size w w' := by
  have c0 : w.cell? ⟨q, 0, none⟩ = some (.slice (some ⟨g, 0, none⟩) n n) := cell_of_row _ _ 0 _ _ _ hx
  have c1 : w.cell? ⟨g, i, none⟩ = some (.bool (F i)) := hr.cell hi
  generalize F i = v at *
  clear hx hr
  go_enter Tryd.func61, Tryd.ntmps61
  go_wp2_with fail
  go_ret
  exact ⟨rfl, Below.refl _ _⟩
theorem cnt_zero {n l : Nat} {f : Nat → Nat} (hf : Vld (n : Int) l f) : ((((cnt f l : Nat) : Int)) == 0) = !(List.range n).any (bt f) := by
  have hl := hf.2.2.1
  rw [Int.toNat_natCast] at hl
  have hm := mem_all hf
  rw [Int.toNat_natCast] at hm
  rw [cnt_mem, hm, Bool.eq_iff_iff, beq_iff_eq, Bool.not_eq_true', List.any_eq_false]
  constructor
  · intro h k hk hb
    have hkm : k ∈ mem f n := mem_in.2 ⟨List.mem_range.1 hk, hb⟩
    have := List.length_pos_of_mem hkm
    omega
  · intro h
    cases hc : mem f n with
    | nil => rfl
    | cons a t =>
      have ha : a ∈ mem f n := by rw [hc]; exact List.mem_cons_self
      exact absurd (mem_in.1 ha).2 (h a (List.mem_range.2 (mem_in.1 ha).1))
def maxT (n : Nat) (T : Nat → Nat → Bool) (i : Nat) : Bool := !(List.range n).any (T i)
def minT (n : Nat) (T : Nat → Nat → Bool) (i : Nat) : Bool := !(List.range n).any fun k => T k i
set_option maxHeartbeats 2000000 in
theorem max1_any (pR n c i : Nat) (A : Option Addr) (R : Nat → RowD) (w : World) (h : Rel w A n R) (hv : VRel n R) (hr : RelAt w pR A n c) (hi : i < n) :
    Calls Tryd.prog 62 #[.int .i64 i, .pointer (some ⟨pR, 0, none⟩)] w fun e w' => e = .returned (.bool (maxT n (mat R) i)) ∧ Below w.heap.size w w' := by
  obtain ⟨b, off, rfl, hbl, hcz⟩ := h (by omega)
  obtain ⟨x0, x1, xw⟩ := hcz i hi
  have hvk := hv.2 i hi
  rw [hvk.1] at x0
  have hcp := cnt_zero hvk.2
  have hdw : Hid (maxT n (mat R) i = !(List.range n).any (bt (R i).f)) := Lib.hid rfl
  rw [← hcp] at hdw
  have hn := hv.1
  have c0 := hr.c0
  have HC := Lib.hid (count_yes n (R i).A (R i).l (R i).c (R i).f w xw hvk.2)
  generalize cnt (R i).f (R i).l = q at *
  generalize (R i).A = A1 at *
  generalize (R i).c = c1 at *
  generalize (R i).l = l1 at *
  clear hcz hr hvk xw hv hcp
  go_enter Tryd.func62, Tryd.ntmps62
  go_wp2_with fail
  refine HC.out.mono ?_; rintro e w6 ⟨rfl, b6⟩
  go_wp2_with fail
  go_ret
  exact ⟨by rw [hdw.out]; rfl, b6⟩
/- which elements have been found to be greater than one -/
def gr (T : Nat → Nat → Bool) (K j : Nat) : Bool := (List.range K).any fun k => T k j
def grm (F : Nat → Bool) (m : List Nat) (q : Nat) : Nat → Bool := fun j => F j || (m.take q).contains j
theorem grm_zero (F : Nat → Bool) (m : List Nat) : grm F m 0 = F := by funext j; unfold grm; simp
theorem grm_succ {F : Nat → Bool} {m : List Nat} {q : Nat} (h : q < m.length) (j : Nat) : (grm F m q j || decide (j = m[q])) = grm F m (q + 1) j := by
  unfold grm
  have e : (m.take (q + 1)).contains j = ((m.take q).contains j || decide (j = m[q])) := by
    rw [List.take_succ_eq_append_getElem h, Bool.eq_iff_iff, List.contains_iff_mem, List.mem_append, List.mem_singleton, Bool.or_eq_true, List.contains_iff_mem, decide_eq_true_eq]
  rw [e, Bool.or_assoc]
theorem grm_end {T : Nat → Nat → Bool} {n K : Nat} {m : List Nat} (hm : ∀ j, j ∈ m ↔ j < n ∧ T K j = true) {j : Nat} (hj : j < n) : grm (gr T K) m m.length j = gr T (K + 1) j := by
  unfold grm gr
  rw [List.take_length, List.range_succ, List.any_append, Bool.eq_iff_iff]
  simp only [Bool.or_eq_true, List.contains_iff_mem, hm, List.any_cons, List.any_nil, Bool.or_false, hj, true_and]
structure MiAt (w wr : World) (g q n c : Nat) (A : Option Addr) (F : Nat → Bool) : Prop where
  b : wr.rowIs g 4 n (fun k => .bool (F k))
  x : wr.heap[q]? = some (.cells #[.slice (some ⟨g, 0, none⟩) n n] 63 (0, 0))
  r : RelAt wr w.heap.size A n c
  z : SetAt wr (w.heap.size + 1) 0 none 0 0
  f : Below w.heap.size w wr
variable {w wr w2 : World} {g q n c : Nat} {A : Option Addr} {F : Nat → Bool}
theorem MiAt.next (h : MiAt w wr g q n c A F) (b : Below wr.heap.size wr w2) : MiAt w w2 g q n c A F :=
  ⟨row_below h.b b, (b.block q (lt_of_block h.x)).trans h.x, h.r.below b, h.z.below b, below_next h.f b⟩
theorem MiAt.congr {F' : Nat → Bool} (h : MiAt w wr g q n c A F) (e : ∀ j, j < n → F j = F' j) : MiAt w wr g q n c A F' := ⟨h.b.congr fun j hj => by rw [e j hj], h.x, h.r, h.z, h.f⟩
theorem MiAt.put (h : MiAt w wr g q n c A F) (hg : w.heap.size + 2 ≤ g) (hq : g ≠ q) (j : Nat) : MiAt w (wr.setCell ⟨g, j, none⟩ (.bool true)) g q n c A (fun k => F k || decide (k = j)) := by
  refine ⟨(h.b.set j _).congr fun k _ => ?_, (Below.heap_setCell wr ⟨g, j, none⟩ _ q (Ne.symm hq)).trans h.x, h.r.far (q := ⟨g, j, none⟩) (by show w.heap.size ≠ g; omega) _, h.z.far (q := ⟨g, j, none⟩) (by show w.heap.size + 1 ≠ g; omega) _, h.f.setCell (p := ⟨g, j, none⟩) (by show w.heap.size ≤ g; omega) _⟩
  by_cases e : k = j
  · rw [if_pos e, decide_eq_true e]; simp
  · rw [if_neg e, decide_eq_false e]; simp
def EndsEnd (w : World) (n : Nat) (R : Nat → RowD) (f : Nat → Nat) (e : Ending) (w' : World) : Prop :=
  (POrd n R ∧ DownOk w n f e w') ∨ (¬ POrd n R ∧ e = .returned (.tuple #[.agg #[.int .i64 0, .slice none 0 0], .int .i64 1]) ∧ Below w.heap.size w w')
theorem minl_off (A : Option Addr) (n c : Nat) (R : Nat → RowD) (w : World) (h : Rel w A n R) (hn : n ≤ 1000000) (hT : Tab w) (hv : ¬ POrd n R) (f : Nat → Nat) :
    Calls Tryd.prog 24 #[.agg #[.slice A n c]] w (EndsEnd w n R f) := by
  have HH := Lib.hid h; clear h
  have r0 := (relAt_new w A n c).alloc (.cells #[.int .i64 0, .slice none 0 0] 37)
  have z0 := setAt_new (w.alloc (.cells #[.slice A n c] 24)) 0 none 0 0
  have hz : (w.alloc (.cells #[.slice A n c] 24)).heap.size = w.heap.size + 1 := by simp
  rw [hz] at z0
  have b0 : Below w.heap.size w ((w.alloc (.cells #[.slice A n c] 24)).alloc (.cells #[.int .i64 0, .slice none 0 0] 37)) := ((Below.refl _ _).alloc (Nat.le_refl _) _).alloc (by simp) _
  have HV := Lib.hid hv
  clear hz hv
  go_enter Tryd.func24, Tryd.ntmps24
  go_upto_region 1 with fail
  generalize (w.alloc (.cells #[.slice A n c] 24)).alloc (.cells #[.int .i64 0, .slice none 0 0] 37) = W at *
  have c0 := r0.c0
  go_wp2_with fail
  refine (pvalid_any A n c R false W (HH.out.below b0) hn (hT.below b0) ⟨fun h => (by cases h), fun h => absurd h HV.out⟩).mono ?_; rintro e w2 ⟨rfl, b2⟩
  have z2 := z0.below b2
  have B2 := below_next b0 b2
  have s5 := setAt_put (N' := 0) (A' := none) (l' := 0) (c' := 0) z2
  have k0 := z2.c0
  have k1 := z2.c1
  have f0 := z2.free 0
  have f1 := z2.free 1
  have j0 := s5.c0
  have j1 := s5.c1
  have B5 := Lib.hid ((B2.setCell (p := ⟨w.heap.size + 1, 0, none⟩) (by show w.heap.size ≤ w.heap.size + 1; omega) (.int .i64 0)).setCell (p := ⟨w.heap.size + 1, 1, none⟩) (by show w.heap.size ≤ w.heap.size + 1; omega) (.slice none 0 0))
  clear r0 z0 b0 b2 z2 s5 B2 c0
  go_wp2_with fail
  refine bodyPost_ret (v := .tuple #[.agg #[.int .i64 0, .slice none 0 0], .int .i64 1]) (by simp [results, Tryd.results24, go_sem, j0, j1]) rfl ?_
  exact .inr ⟨HV.out, rfl, B5.out⟩
theorem maxl_off (A : Option Addr) (n c : Nat) (R : Nat → RowD) (w : World) (h : Rel w A n R) (hn : n ≤ 1000000) (hT : Tab w) (hv : ¬ POrd n R) (f : Nat → Nat) :
    Calls Tryd.prog 25 #[.agg #[.slice A n c]] w (EndsEnd w n R f) := by
  have HH := Lib.hid h; clear h
  have r0 := (relAt_new w A n c).alloc (.cells #[.int .i64 0, .slice none 0 0] 37)
  have z0 := setAt_new (w.alloc (.cells #[.slice A n c] 24)) 0 none 0 0
  have hz : (w.alloc (.cells #[.slice A n c] 24)).heap.size = w.heap.size + 1 := by simp
  rw [hz] at z0
  have b0 : Below w.heap.size w ((w.alloc (.cells #[.slice A n c] 24)).alloc (.cells #[.int .i64 0, .slice none 0 0] 37)) := ((Below.refl _ _).alloc (Nat.le_refl _) _).alloc (by simp) _
  have HV := Lib.hid hv
  clear hz hv
  go_enter Tryd.func25, Tryd.ntmps25
  go_upto_region 1 with fail
  generalize (w.alloc (.cells #[.slice A n c] 24)).alloc (.cells #[.int .i64 0, .slice none 0 0] 37) = W at *
  have c0 := r0.c0
  go_wp2_with fail
  refine (pvalid_any A n c R false W (HH.out.below b0) hn (hT.below b0) ⟨fun h => (by cases h), fun h => absurd h HV.out⟩).mono ?_; rintro e w2 ⟨rfl, b2⟩
  have z2 := z0.below b2
  have B2 := below_next b0 b2
  have s5 := setAt_put (N' := 0) (A' := none) (l' := 0) (c' := 0) z2
  have k0 := z2.c0
  have k1 := z2.c1
  have f0 := z2.free 0
  have f1 := z2.free 1
  have j0 := s5.c0
  have j1 := s5.c1
  have B5 := Lib.hid ((B2.setCell (p := ⟨w.heap.size + 1, 0, none⟩) (by show w.heap.size ≤ w.heap.size + 1; omega) (.int .i64 0)).setCell (p := ⟨w.heap.size + 1, 1, none⟩) (by show w.heap.size ≤ w.heap.size + 1; omega) (.slice none 0 0))
  clear r0 z0 b0 b2 z2 s5 B2 c0
  go_wp2_with fail
  refine bodyPost_ret (v := .tuple #[.agg #[.int .i64 0, .slice none 0 0], .int .i64 1]) (by simp [results, Tryd.results25, go_sem, j0, j1]) rfl ?_
  exact .inr ⟨HV.out, rfl, B5.out⟩
set_option maxRecDepth 100000 in
set_option maxHeartbeats 4000000 in
theorem maxl_on (A : Option Addr) (n c : Nat) (R : Nat → RowD) (w : World) (h : Rel w A n R) (hT : Tab w) (hP : POrd n R) :
    Calls Tryd.prog 25 #[.agg #[.slice A n c]] w (EndsEnd w n R (setF (tl (maxT n (mat R)) true n))) := by
  have hn := hP.1.1
  have HH := Lib.hid h; clear h
  have r0 := (relAt_new w A n c).alloc (.cells #[.int .i64 0, .slice none 0 0] 37)
  have z0 := setAt_new (w.alloc (.cells #[.slice A n c] 24)) 0 none 0 0
  have hz : (w.alloc (.cells #[.slice A n c] 24)).heap.size = w.heap.size + 1 := by simp
  rw [hz] at z0
  have b0 : Below w.heap.size w ((w.alloc (.cells #[.slice A n c] 24)).alloc (.cells #[.int .i64 0, .slice none 0 0] 37)) := ((Below.refl _ _).alloc (Nat.le_refl _) _).alloc (by simp) _
  have HP := Lib.hid hP
  clear hz hP
  go_enter Tryd.func25, Tryd.ntmps25
  go_upto_region 1 with fail
  generalize (w.alloc (.cells #[.slice A n c] 24)).alloc (.cells #[.int .i64 0, .slice none 0 0] 37) = W at *
  have c0 := r0.c0
  go_wp2_with fail
  refine (pvalid_any A n c R true W (HH.out.below b0) (by omega) (hT.below b0) ⟨fun _ => HP.out, fun _ => rfl⟩).mono ?_; rintro e w2 ⟨rfl, b2⟩
  have r2 := r0.below b2
  have z2 := z0.below b2
  have B2 := below_next b0 b2
  clear r0 z0 c0 b0 b2
  have c0 := r2.c0
  have HE := Lib.hid (elements62 n c A w.heap.size (maxT n (mat R)) w2 hn (fun i hi u hu => max1_any w.heap.size n c i A R u (HH.out.below (below_next B2 hu)) HP.out.1 (r2.below hu) hi))
  unfold SetEnd at HE
  obtain ⟨mw, hmw⟩ : ∃ mw, (n + 63) / 64 = mw := ⟨_, rfl⟩
  rw [hmw] at HE
  have HMW := Lib.hid hmw
  clear hmw
  go_wp2_with fail
  refine HE.out.mono ?_; rintro e w4 ⟨g, rfl, hg, hrow, b4⟩
  have s4 := z2.below b4
  have B4 := below_next B2 b4
  have hsl := z2.lt
  have k0 := s4.c0
  have k1 := s4.c1
  have f0 := s4.free 0
  have f1 := s4.free 1
  have hgne : g ≠ w.heap.size + 1 := by omega
  have s5 := setAt_put (N' := (n : Int)) (A' := some ⟨g, 0, none⟩) (l' := mw) (c' := mw) s4
  have j0 := s5.c0
  have j1 := s5.c1
  have HROW := Lib.hid ((hrow.setOther (a := ⟨w.heap.size + 1, 0, none⟩) (by exact hgne) (.int .i64 (n : Int))).setOther (a := ⟨w.heap.size + 1, 1, none⟩) (by exact hgne) (.slice (some ⟨g, 0, none⟩) mw mw))
  have B5 := Lib.hid ((B4.setCell (p := ⟨w.heap.size + 1, 0, none⟩) (by show w.heap.size ≤ w.heap.size + 1; omega) (.int .i64 (n : Int))).setCell (p := ⟨w.heap.size + 1, 1, none⟩) (by show w.heap.size ≤ w.heap.size + 1; omega) (.slice (some ⟨g, 0, none⟩) mw mw))
  have hgw : w.heap.size ≤ g := by omega
  clear r2 z2 s4 s5 c0 b4 hrow HE B2 B4
  go_wp2_with fail
  refine bodyPost_ret (v := .tuple #[.agg #[.int .i64 n, .slice (some ⟨g, 0, none⟩) mw mw], .int .i64 0]) (by simp [results, Tryd.results25, go_sem, j0, j1]) rfl ?_
  exact .inl ⟨HP.out, g, by rw [HMW.out], hgw, by rw [HMW.out]; exact HROW.out, B5.out⟩
set_option maxRecDepth 100000 in
set_option maxHeartbeats 8000000 in
theorem minl_on (A : Option Addr) (n c : Nat) (R : Nat → RowD) (w : World) (h : Rel w A n R) (hT : Tab w) (hP : POrd n R) :
    Calls Tryd.prog 24 #[.agg #[.slice A n c]] w (EndsEnd w n R (setF (tl (minT n (mat R)) true n))) := by
  have hn := hP.1.1
  have HH := Lib.hid h; clear h
  have r0 := (relAt_new w A n c).alloc (.cells #[.int .i64 0, .slice none 0 0] 37)
  have z0 := setAt_new (w.alloc (.cells #[.slice A n c] 24)) 0 none 0 0
  have hz : (w.alloc (.cells #[.slice A n c] 24)).heap.size = w.heap.size + 1 := by simp
  rw [hz] at z0
  have b0 : Below w.heap.size w ((w.alloc (.cells #[.slice A n c] 24)).alloc (.cells #[.int .i64 0, .slice none 0 0] 37)) := ((Below.refl _ _).alloc (Nat.le_refl _) _).alloc (by simp) _
  have HP := Lib.hid hP
  clear hz hP
  go_enter Tryd.func24, Tryd.ntmps24
  go_upto_region 1 with fail
  generalize (w.alloc (.cells #[.slice A n c] 24)).alloc (.cells #[.int .i64 0, .slice none 0 0] 37) = W at *
  have c0 := r0.c0
  go_wp2_with fail
  refine (pvalid_any A n c R true W (HH.out.below b0) (by omega) (hT.below b0) ⟨fun _ => HP.out, fun _ => rfl⟩).mono ?_; rintro e w2 ⟨rfl, b2⟩
  have r2 := r0.below b2
  have z2 := z0.below b2
  have B2 := below_next b0 b2
  clear r0 z0 c0 b0 b2
  have c0 := r2.c0
  have mk := make_bools n (by omega)
  have e3 : (w2.alloc (.cells (madeCells #[.bool false] n) 4)).heap[w2.heap.size]? = some (.cells (madeCells #[.bool false] n) 4) := heap_alloc_new w2 _
  have b3 : Below w2.heap.size w2 (w2.alloc (.cells (madeCells #[.bool false] n) 4)) := (Below.refl _ _).alloc (Nat.le_refl _) _
  have hx3 : ((w2.alloc (.cells (madeCells #[.bool false] n) 4)).alloc (.cells #[.slice (some ⟨w2.heap.size, 0, none⟩) n n] 63)).heap[w2.heap.size + 1]? = some (.cells #[.slice (some ⟨w2.heap.size, 0, none⟩) n n] 63 (0, 0)) := by
    have := heap_alloc_new (w2.alloc (.cells (madeCells #[.bool false] n) 4)) (.cells #[.slice (some ⟨w2.heap.size, 0, none⟩) n n] 63)
    simpa using this
  have bx : Below (w2.alloc (.cells (madeCells #[.bool false] n) 4)).heap.size (w2.alloc (.cells (madeCells #[.bool false] n) 4)) ((w2.alloc (.cells (madeCells #[.bool false] n) 4)).alloc (.cells #[.slice (some ⟨w2.heap.size, 0, none⟩) n n] 63)) := (Below.refl _ _).alloc (Nat.le_refl _) _
  have hM0 : MiAt w ((w2.alloc (.cells (madeCells #[.bool false] n) 4)).alloc (.cells #[.slice (some ⟨w2.heap.size, 0, none⟩) n n] 63)) w2.heap.size (w2.heap.size + 1) n c A (gr (mat R) 0) :=
    ⟨row_below (row_of_made e3) bx, hx3, (r2.below b3).below bx, (z2.below b3).below bx, below_next (below_next B2 b3) bx⟩
  have hgl : w.heap.size + 2 ≤ w2.heap.size := z2.lt
  clear e3 b3 hx3 bx z2
  go_upto_region 4 with fail
  clear mk c0 r2 B2
  generalize (w2.alloc (.cells (madeCells #[.bool false] n) 4)).alloc (.cells #[.slice (some ⟨w2.heap.size, 0, none⟩) n n] 63) = W3 at *
  generalize w2.heap.size = g at *
  have c0 := hM0.r.c0
  go_wp2_with fail
  clear c0
  go_loopw [20] (fun i wr => ∃ K : Nat, K ≤ n ∧ i = .int .i64 K ∧ MiAt w wr g (g + 1) n c A (gr (mat R) K)) (fun i _ => n - (intOf i).toNat)
  case atStart => exact ⟨0, Nat.zero_le _, rfl, hM0⟩
  case round =>
    clear hM0
    obtain ⟨K, hK, rfl, hM⟩ := hrel
    by_cases hlt : K < n
    · obtain ⟨b, off, rfl, hbl, hcz⟩ := (HH.out.below hM.f) (by omega)
      obtain ⟨x0, x1, xw⟩ := hcz K hlt
      have hvk := HP.out.1.2 K hlt
      have hwrap : IntKind.i64.wrap ((K : Int) + 1) = (K : Int) + 1 := IntWalk.i64_in _ (by omega)
      have HX := Lib.hid xw
      have HVK := Lib.hid hvk
      have hB := hM.f
      have bO : Below wr.heap.size wr (wr.alloc (.cells #[.int .i64 (R K).N, .slice (R K).A (R K).l (R K).c] 37)) := (Below.refl _ _).alloc (Nat.le_refl _) _
      have hS := setAt_new wr (R K).N (R K).A (R K).l (R K).c
      have hM1 := hM.next bO
      have HM := Lib.hid (pmembers_any n (R K) (wr.alloc (.cells #[.int .i64 (R K).N, .slice (R K).A (R K).l (R K).c] 37)) (HX.out.below bO) HVK.out (hT.below hM1.f))
      unfold RowOut at HM
      have hrow : Hid (∀ j, j ∈ (List.range n).filter (bt (R K).f) ↔ j < n ∧ mat R K j = true) := Lib.hid fun j => by rw [List.mem_filter, List.mem_range]; exact Iff.rfl
      have hll : ((List.range n).filter (bt (R K).f)).length ≤ n := by
        have := List.length_filter_le (bt (R K).f) (List.range n)
        simpa using this
      generalize (List.range n).filter (bt (R K).f) = m at *
      generalize (R K).N = N1 at *
      generalize (R K).A = A1 at *
      generalize (R K).l = l1 at *
      generalize (R K).c = c1 at *
      clear hcz xw hvk hM hB bO
      go_upto_region 7 with fail
      clear x0 x1
      generalize wr.alloc (.cells #[.int .i64 N1, .slice A1 l1 c1] 37) = w4 at *
      have c0 := hS.c0
      have c1' := hS.c1
      go_wp2_with fail
      refine HM.out.mono ?_; rintro e w5 ⟨vm, rfl, hown, b5⟩
      obtain ⟨Am, cm, rfl, hIm, _⟩ := own_ints hown
      have hM5 := hM1.next b5
      have hg4 : g < w4.heap.size := hM1.b.lt
      have HIm : Hid (∀ wr : World, (∀ b, b < w5.heap.size → b ≠ g → wr.heap[b]? = w5.heap[b]?) → Ints wr Am m.length (gets m)) := Lib.hid fun wr hk => fun hpos => by
        obtain ⟨b, off, hA, hlt, hc⟩ := hIm hpos
        subst hA
        have hbb := hown.lt b rfl
        have hne : b ≠ g := by omega
        have hsz : b < wr.heap.size := by
          have e := hk b hlt hne
          have h1 : b < w5.heap.size := hlt
          have h2 : w5.heap[b]? = some w5.heap[b] := by simp [h1]
          rw [h2] at e
          exact lt_of_block e
        exact ⟨b, off, rfl, hsz, fun k hk2 => (World.cell?_of_block (w := w5) (hk b hlt hne)).trans (hc k hk2)⟩
      have hM6 : MiAt w w5 g (g + 1) n c (some ⟨b, off, none⟩) (grm (gr (mat R) K) m 0) := by rw [grm_zero]; exact hM5
      clear HM hM1 hM5 hS hIm hown b5 c0 c1' HX
      go_wp2_with fail
      go_loopw [27] (fun x wr => ∃ q : Nat, q ≤ m.length ∧ x = .int .i64 q ∧ MiAt w wr g (g + 1) n c (some ⟨b, off, none⟩) (grm (gr (mat R) K) m q) ∧ Hid (∀ b, b < w5.heap.size → b ≠ g → wr.heap[b]? = w5.heap[b]?)) (fun x _ => m.length - (intOf x).toNat)
      case atStart => exact ⟨0, Nat.zero_le _, rfl, hM6, Lib.hid (fun _ _ _ => rfl)⟩
      case round =>
        clear hM6
        obtain ⟨q, hq, rfl, hM, hkw⟩ := hrel
        by_cases hlt2 : q < m.length
        · obtain ⟨bm, om, rfl, hbm, hcm⟩ := (HIm.out wr hkw.out) (by omega)
          have z0 := hcm q hlt2
          have hmem : m[q] ∈ m := List.getElem_mem hlt2
          have hjn := ((hrow.out _).1 hmem).1
          unfold gets at z0
          rw [getD_lt hlt2] at z0
          have hst : Hid (∀ j, (grm (gr (mat R) K) m q j || decide (j = m[q])) = grm (gr (mat R) K) m (q + 1) j) := Lib.hid fun j => grm_succ hlt2 j
          generalize m[q] = j at *
          have hwrap2 : IntKind.i64.wrap ((q : Int) + 1) = (q : Int) + 1 := IntWalk.i64_in _ (by omega)
          have x0 : wr.cell? ⟨g + 1, 0, none⟩ = some (.slice (some ⟨g, 0, none⟩) n n) := cell_of_row _ _ 0 _ _ _ hM.x
          have y0 : wr.cell? ⟨g, j, none⟩ = some (.bool (grm (gr (mat R) K) m q j)) := hM.b.cell hjn
          have f0 := hM.b.frozen j
          have hM2 := (hM.put hgl (by omega) j).congr fun k _ => hst.out k
          have hk2 : Hid (∀ b, b < w5.heap.size → b ≠ g → (wr.setCell ⟨g, j, none⟩ (.bool true)).heap[b]? = w5.heap[b]?) := Lib.hid fun b hb hne => (Below.heap_setCell _ _ _ _ (by exact hne)).trans (hkw.out b hb hne)
          have HM2 := Lib.hid hM2
          generalize grm (gr (mat R) K) m q j = y at *
          clear hM hkw hcm hM2 hst
          go_wp2_with fail
          go_roundw
          case rel => exact ⟨q + 1, hlt2, by go_num, HM2.out, hk2⟩
          case measure => simp [intOf]; omega
        · obtain rfl : q = m.length := by omega
          have hM2 := hM.congr fun j hj => grm_end hrow.out hj
          clear hM hkw
          go_wp2_with fail
          go_roundw
          case rel => exact ⟨K + 1, hlt, by go_num, hM2⟩
          case measure => simp [intOf]; omega
    · obtain rfl : K = n := by omega
      have c0 := hM.r.c0
      have hz2 := hM.z
      have B2 := hM.f
      have HE := Lib.hid (elements61 K c A (g + 1) (minT K (mat R)) wr hn (fun i hi u hu => min1_any (g + 1) g K i (gr (mat R) K) u (hM.next hu).x (hM.next hu).b hi))
      unfold SetEnd at HE
      obtain ⟨mw, hmw⟩ : ∃ mw, (K + 63) / 64 = mw := ⟨_, rfl⟩
      rw [hmw] at HE
      have HMW := Lib.hid hmw
      clear hmw hM
      go_wp2_with fail
      refine HE.out.mono ?_; rintro e w4 ⟨g2, rfl, hg, hrow, b4⟩
      have s4 := hz2.below b4
      have B4 := below_next B2 b4
      have hsl := hz2.lt
      have k0 := s4.c0
      have k1 := s4.c1
      have f0 := s4.free 0
      have f1 := s4.free 1
      have hgne : g2 ≠ w.heap.size + 1 := by omega
      have s5 := setAt_put (N' := (K : Int)) (A' := some ⟨g2, 0, none⟩) (l' := mw) (c' := mw) s4
      have j0 := s5.c0
      have j1 := s5.c1
      have HROW := Lib.hid ((hrow.setOther (a := ⟨w.heap.size + 1, 0, none⟩) (by exact hgne) (.int .i64 (K : Int))).setOther (a := ⟨w.heap.size + 1, 1, none⟩) (by exact hgne) (.slice (some ⟨g2, 0, none⟩) mw mw))
      have B5 := Lib.hid ((B4.setCell (p := ⟨w.heap.size + 1, 0, none⟩) (by show w.heap.size ≤ w.heap.size + 1; omega) (.int .i64 (K : Int))).setCell (p := ⟨w.heap.size + 1, 1, none⟩) (by show w.heap.size ≤ w.heap.size + 1; omega) (.slice (some ⟨g2, 0, none⟩) mw mw))
      have hgw : w.heap.size ≤ g2 := by omega
      clear hz2 s4 s5 c0 b4 hrow HE B2 B4
      go_wp2_with fail
      refine bodyPost_ret (v := .tuple #[.agg #[.int .i64 K, .slice (some ⟨g2, 0, none⟩) mw mw], .int .i64 0]) (by simp [results, Tryd.results24, go_sem, j0, j1]) rfl ?_
      exact .inl ⟨HP.out, g2, by rw [HMW.out], hgw, by rw [HMW.out]; exact HROW.out, B5.out⟩
end Go.Proofs.YtakjdihhbndcnaaDoor
/- The reference's Minimal and Maximal. -/
namespace Go.Proofs.YtakjdihhbndcnaaDoor
open Go.RowKit Go.Sort
theorem setF_eq {l k : List Nat} (h : ∀ x, x ∈ l ↔ x ∈ k) : setF l = setF k := by
  refine funext fun i => bt_ext (setF_u64 l (i + 1)) (setF_u64 k (i + 1)) (fun j _ => ?_) i (by omega)
  rw [Bool.eq_iff_iff, setF_bt, setF_bt, h]
theorem ofr_list (n : Nat) (v : Value) (base : Nat) (l : List Nat) (w : World) (hn : n ≤ 512) (hown : w.ownsRow base 3 1 v l.length (vals l)) (hl : l.length ≤ 100000) (h : ∀ x, x ∈ l → x < n) :
    Calls Tryd.prog 42 #[.int .i64 n, v] w (SetNew w n ((n + 63) / 64) (setF l)) := by
  obtain ⟨A, c, rfl, hI, _⟩ := own_ints hown
  refine refOf_any n A l.length c (fun k => (gets l k).toNat) w hn (hI.congr fun k _ => ?_) hl (fun k hk => ?_)
  · show ((l.getD k 0 : Nat) : Int) = (((l.getD k 0 : Nat) : Int).toNat : Int)
    omega
  · show ((l.getD k 0 : Nat) : Int).toNat < n
    have := h _ (List.getElem_mem hk)
    rw [getD_lt hk]; omega
theorem rsame_setF (n g h ca cb : Nat) (l : List Nat) (w : World) (hn : n ≤ 512) (ha : w.rowIs g 59 ((n + 63) / 64) (fun k => .int .u64 (setF l k : Nat))) (hb : w.rowIs h 59 ((n + 63) / 64) (fun k => .int .u64 (setF l k : Nat))) :
    Calls Tryd.prog 28 #[.agg #[.int .i64 n, .slice (some ⟨g, 0, none⟩) ((n + 63) / 64) ca], .agg #[.int .i64 n, .slice (some ⟨h, 0, none⟩) ((n + 63) / 64) cb]] w fun e w' => e = .returned (.bool true) ∧ Below w.heap.size w w' :=
  refSame_any n _ _ ((n + 63) / 64) ca cb (setF l) (setF l) ((n + 63) / 64) true w (row_wds ha (setF_u64 _ _)) (row_wds hb (setF_u64 _ _)) (by omega) (Nat.le_refl _) (fun _ _ => rfl) (.inl ⟨rfl, rfl⟩)
set_option maxHeartbeats 4000000 in
theorem below_any (A : Option Addr) (n c i : Nat) (R : Nat → RowD) (w : World) (h : Rel w A n R) (hv : VRel n R) (hi : i < n) :
    Calls Tryd.prog 65 #[.agg #[.slice A n c], .int .i64 i] w fun e w' => e = .returned (.bool (!minT n (mat R) i)) ∧ Below w.heap.size w w' := by
  have HH := Lib.hid h
  have HV := Lib.hid hv
  have hn := hv.1
  have b0 : Below w.heap.size w (w.alloc (.cells #[.slice A n c] 24)) := (Below.refl _ _).alloc (Nat.le_refl _) _
  have r0 := relAt_new w A n c
  obtain ⟨v, hvv⟩ : ∃ v, minT n (mat R) i = v := ⟨_, rfl⟩
  rw [hvv]
  have HVV := Lib.hid hvv
  clear h hv hvv
  go_enter Tryd.func65, Tryd.ntmps65
  go_upto_region 1 with fail
  generalize w.alloc (.cells #[.slice A n c] 24) = W at *
  go_wp2_with fail
  go_loopw [5] (fun x wr => ∃ K : Nat, K ≤ n ∧ x = .int .i64 K ∧ Hid (∀ k, k < K → mat R k i = false) ∧ RelAt wr w.heap.size A n c ∧ Below w.heap.size w wr) (fun x _ => n - (intOf x).toNat)
  case atStart => exact ⟨0, Nat.zero_le _, rfl, Lib.hid (fun k hk => absurd hk (Nat.not_lt_zero _)), r0, b0⟩
  case round =>
    clear r0 b0
    obtain ⟨K, hK, rfl, hQ, hr, hB⟩ := hrel
    have c0 := hr.c0
    by_cases hlt : K < n
    · have HL := Lib.hid (rless_any A n c K i R wr (HH.out.below hB) HV.out hlt hi)
      obtain ⟨t, ht⟩ : ∃ t, mat R K i = t := ⟨_, rfl⟩
      rw [ht] at HL
      have HT := Lib.hid ht
      clear ht
      go_wp2_with fail
      refine HL.out.mono ?_; rintro e w4 ⟨rfl, b4⟩
      have hr4 := hr.below b4
      have hB4 := below_next hB b4
      clear c0 HL hr hB b4
      cases t with
      | false =>
        go_wp2_with fail
        go_roundw
        case rel =>
          refine ⟨K + 1, hlt, by go_num, Lib.hid fun k hk => ?_, hr4, hB4⟩
          by_cases e : k = K
          · rw [e]; exact HT.out
          · exact hQ.out k (by omega)
        case measure => simp [intOf]; omega
      | true =>
        have hv0 : v = false := by
          rw [← HVV.out]
          unfold minT
          rw [Bool.not_eq_false', List.any_eq_true]
          exact ⟨K, List.mem_range.2 hlt, HT.out⟩
        subst hv0
        go_wp2_with fail
        go_ret
        exact ⟨rfl, hB4⟩
    · obtain rfl : K = n := by omega
      have hv1 : v = true := by
        rw [← HVV.out]
        unfold minT
        rw [Bool.not_eq_true', List.any_eq_false]
        intro k hk hb
        rw [hQ.out k (List.mem_range.1 hk)] at hb
        cases hb
      subst hv1
      go_wp2_with fail
      go_ret
      exact ⟨rfl, hB⟩
theorem any_len (n : Nat) (f : Nat → Nat) : decide ((0 : Int) < ((mem f n).length : Nat)) = (List.range n).any (bt f) := by
  rw [Bool.eq_iff_iff, decide_eq_true_eq, List.any_eq_true]
  constructor
  · intro h
    cases hc : mem f n with
    | nil => rw [hc] at h; simp at h
    | cons a t =>
      have ha : a ∈ mem f n := by rw [hc]; exact List.mem_cons_self
      exact ⟨a, List.mem_range.2 (mem_in.1 ha).1, (mem_in.1 ha).2⟩
  · rintro ⟨k, hk, hb⟩
    have hkm : k ∈ mem f n := mem_in.2 ⟨List.mem_range.1 hk, hb⟩
    have := List.length_pos_of_mem hkm
    omega
set_option maxHeartbeats 2000000 in
theorem above_any (A : Option Addr) (n c i : Nat) (R : Nat → RowD) (w : World) (h : Rel w A n R) (hv : VRel n R) (hi : i < n) :
    Calls Tryd.prog 66 #[.agg #[.slice A n c], .int .i64 i] w fun e w' => e = .returned (.bool (!maxT n (mat R) i)) ∧ Below w.heap.size w w' := by
  have b0 : Below w.heap.size w (w.alloc (.cells #[.slice A n c] 24)) := (Below.refl _ _).alloc (Nat.le_refl _) _
  have c0 := (relAt_new w A n c).c0
  obtain ⟨b, off, rfl, hbl, hcz⟩ := (h.below b0) (by omega)
  obtain ⟨x0, x1, xw⟩ := hcz i hi
  have hvk := hv.2 i hi
  rw [hvk.1] at x0
  have hcp := any_len n (R i).f
  have hdw : Hid ((!maxT n (mat R) i) = (List.range n).any (bt (R i).f)) := Lib.hid (by unfold maxT; rw [Bool.not_not]; rfl)
  rw [← hcp] at hdw
  have hn := hv.1
  have HC := Lib.hid (refCount_yes n (R i).A (R i).l (R i).c (R i).f _ xw hvk.2)
  generalize (mem (R i).f n).length = q at *
  generalize (R i).A = A1 at *
  generalize (R i).c = c1 at *
  generalize (R i).l = l1 at *
  clear hcz hvk xw hv hcp h
  go_enter Tryd.func66, Tryd.ntmps66
  go_upto_region 1 with fail
  generalize w.alloc (.cells #[.slice (some ⟨b, off, none⟩) n c] 24) = W at *
  go_wp2_with fail
  refine HC.out.mono ?_; rintro e w6 ⟨rfl, b6⟩
  go_wp2_with fail
  go_ret
  exact ⟨by rw [hdw.out]; first | rfl | simp, below_next b0 b6⟩
set_option maxRecDepth 100000 in
set_option maxHeartbeats 4000000 in
theorem rlist29 (A : Option Addr) (n c : Nat) (F : Nat → Bool) (w : World) (hn : n ≤ 512) (hcl : ∀ i, i < n → ∀ u, Below w.heap.size w u → Calls Tryd.prog 65 #[.agg #[.slice A n c], .int .i64 i] u fun e w' => e = .returned (.bool (!F i)) ∧ Below u.heap.size u w') :
    Calls Tryd.prog 29 #[.agg #[.slice A n c]] w (SetEnd w n (setF (tl F true n))) := by
  have HCL := Lib.hid hcl; clear hcl
  have r0 := (relAt_new w A n c).alloc (.cells #[.int .i64 0, .slice none 0 0] 37)
  have s0 := setAt_new (w.alloc (.cells #[.slice A n c] 24)) 0 none 0 0
  have hz : (w.alloc (.cells #[.slice A n c] 24)).heap.size = w.heap.size + 1 := by simp
  rw [hz] at s0
  have b0 : Below w.heap.size w ((w.alloc (.cells #[.slice A n c] 24)).alloc (.cells #[.int .i64 0, .slice none 0 0] 37)) := ((Below.refl _ _).alloc (Nat.le_refl _) _).alloc (by simp) _
  clear hz
  go_enter Tryd.func29, Tryd.ntmps29
  go_upto_region 1 with fail
  generalize (w.alloc (.cells #[.slice A n c] 24)).alloc (.cells #[.int .i64 0, .slice none 0 0] 37) = W at *
  go_wp2_with fail
  go_loopw [3, 4] (fun v i wr => ∃ K : Nat, K ≤ n ∧ i = .int .i64 K ∧ wr.ownsRow (w.heap.size + 2) 3 1 v (tl F true K).length (vals (tl F true K)) ∧ RelAt wr w.heap.size A n c ∧ SetAt wr (w.heap.size + 1) 0 none 0 0 ∧ Below w.heap.size w wr) (fun _ i _ => n - (intOf i).toNat)
  case atStart => exact ⟨0, Nat.zero_le _, rfl, ⟨rfl, .inl ⟨rfl, rfl⟩⟩, r0, s0, b0⟩
  case round =>
    clear s0 b0 r0
    obtain ⟨K, hK, rfl, hown, hR, hS, hB⟩ := hrel
    have c0 := hR.c0
    by_cases hlt : K < n
    · have hwrap : IntKind.i64.wrap ((K : Int) + 1) = (K : Int) + 1 := IntWalk.i64_in _ (by omega)
      have hll := tl_len F true K
      have HC := Lib.hid (HCL.out K hlt wr hB)
      obtain ⟨vb, hvb⟩ : ∃ v, F K = v := ⟨_, rfl⟩
      rw [hvb] at HC
      go_wp2_with fail
      refine HC.out.mono ?_; rintro e w2 ⟨rfl, b2⟩
      have hown2 := own_below hown b2
      have hR2 := hR.below b2
      have hS2 := hS.below b2
      have hB2 := below_next hB b2
      have hsl := hS2.lt
      clear hown hS hR hB b2 HC c0
      cases vb with
      | true =>
        have hst : Hid (tl F true (K + 1) = tl F true K ++ [K]) := tl_yes hvb
        obtain ⟨l, hl⟩ : ∃ l, l = tl F true K := ⟨_, rfl⟩
        rw [← hl] at hown2 hst hll
        clear hl hvb
        have hownA := hown2.alloc (.cells #[.int .i64 (K : Int)] 3)
        have hSA := hS2.alloc (.cells #[.int .i64 (K : Int)] 3)
        have hRA := hR2.alloc (.cells #[.int .i64 (K : Int)] 3)
        go_wp2_with (at_builtin; refine append_nat rfl (.tmp 16) (.tmp 18) rfl (w.heap.size + 2) _ l K K _ rfl hownA w2.heap.size rfl (heap_alloc_new _ _) rfl (by omega) (by simp; omega) ?_; intro g9 c9 w9 hown9 hg9 hat9)
        go_roundw
        case rel => exact ⟨K + 1, hlt, by go_num, by rw [hst.out, List.length_append]; exact hown9, (hg9.block _ hRA.lt (fun e => by have := (hown2.lt _ e.symm).1; omega)).trans hRA, (hg9.block _ hSA.lt (fun e => by have := (hown2.lt _ e.symm).1; omega)).trans hSA, grown_below hB2 hown2 (by omega) hg9⟩
        case measure => simp [intOf]; omega
      | false =>
        have hst : Hid (tl F true (K + 1) = tl F true K) := tl_no (by rw [hvb]; exact Bool.false_ne_true)
        clear hvb
        go_wp2_with fail
        go_roundw
        case rel => exact ⟨K + 1, hlt, by go_num, by rw [hst.out]; exact hown2, hR2, hS2, hB2⟩
        case measure => simp [intOf]; omega
    · obtain rfl : K = n := by omega
      have hsl := hS.lt
      have hll := tl_len F true K
      have HO := Lib.hid (ofr_list K u3 (w.heap.size + 2) (tl F true K) wr hn hown (by omega) (fun x hx => (tl_mem.1 hx).1))
      unfold SetNew at HO
      generalize hmw : (K + 63) / 64 = mw at *
      have HMW := Lib.hid hmw
      clear hmw hown
      go_wp2_with fail
      refine HO.out.mono ?_; rintro e w4 ⟨g, rfl, hg, hrow, b4⟩
      have s4 := hS.below b4
      have B4 := below_next hB b4
      have k0 := s4.c0
      have k1 := s4.c1
      have f0 := s4.free 0
      have f1 := s4.free 1
      have hgne : g ≠ w.heap.size + 1 := by omega
      have s5 := setAt_put (N' := (K : Int)) (A' := some ⟨g, 0, none⟩) (l' := mw) (c' := mw) s4
      have j0 := s5.c0
      have j1 := s5.c1
      have HROW := Lib.hid ((hrow.setOther (a := ⟨w.heap.size + 1, 0, none⟩) (by exact hgne) (.int .i64 (K : Int))).setOther (a := ⟨w.heap.size + 1, 1, none⟩) (by exact hgne) (.slice (some ⟨g, 0, none⟩) mw mw))
      have B5 := Lib.hid ((B4.setCell (p := ⟨w.heap.size + 1, 0, none⟩) (by show w.heap.size ≤ w.heap.size + 1; omega) (.int .i64 (K : Int))).setCell (p := ⟨w.heap.size + 1, 1, none⟩) (by show w.heap.size ≤ w.heap.size + 1; omega) (.slice (some ⟨g, 0, none⟩) mw mw))
      have hgw : w.heap.size ≤ g := by omega
      clear hR hS s4 s5 c0 b4 hrow HO hB B4
      go_wp2_with fail
      refine bodyPost_ret (v := .agg #[.int .i64 K, .slice (some ⟨g, 0, none⟩) mw mw]) (by simp [results, Tryd.results29, go_sem, j0, j1]) rfl ?_
      exact ⟨g, by rw [HMW.out], hgw, by rw [HMW.out]; exact HROW.out, B5.out⟩
set_option maxRecDepth 100000 in
set_option maxHeartbeats 4000000 in
theorem rlist30 (A : Option Addr) (n c : Nat) (F : Nat → Bool) (w : World) (hn : n ≤ 512) (hcl : ∀ i, i < n → ∀ u, Below w.heap.size w u → Calls Tryd.prog 66 #[.agg #[.slice A n c], .int .i64 i] u fun e w' => e = .returned (.bool (!F i)) ∧ Below u.heap.size u w') :
    Calls Tryd.prog 30 #[.agg #[.slice A n c]] w (SetEnd w n (setF (tl F true n))) := by
  have HCL := Lib.hid hcl; clear hcl
  have r0 := (relAt_new w A n c).alloc (.cells #[.int .i64 0, .slice none 0 0] 37)
  have s0 := setAt_new (w.alloc (.cells #[.slice A n c] 24)) 0 none 0 0
  have hz : (w.alloc (.cells #[.slice A n c] 24)).heap.size = w.heap.size + 1 := by simp
  rw [hz] at s0
  have b0 : Below w.heap.size w ((w.alloc (.cells #[.slice A n c] 24)).alloc (.cells #[.int .i64 0, .slice none 0 0] 37)) := ((Below.refl _ _).alloc (Nat.le_refl _) _).alloc (by simp) _
  clear hz
  go_enter Tryd.func30, Tryd.ntmps30
  go_upto_region 1 with fail
  generalize (w.alloc (.cells #[.slice A n c] 24)).alloc (.cells #[.int .i64 0, .slice none 0 0] 37) = W at *
  go_wp2_with fail
  go_loopw [3, 4] (fun v i wr => ∃ K : Nat, K ≤ n ∧ i = .int .i64 K ∧ wr.ownsRow (w.heap.size + 2) 3 1 v (tl F true K).length (vals (tl F true K)) ∧ RelAt wr w.heap.size A n c ∧ SetAt wr (w.heap.size + 1) 0 none 0 0 ∧ Below w.heap.size w wr) (fun _ i _ => n - (intOf i).toNat)
  case atStart => exact ⟨0, Nat.zero_le _, rfl, ⟨rfl, .inl ⟨rfl, rfl⟩⟩, r0, s0, b0⟩
  case round =>
    clear s0 b0 r0
    obtain ⟨K, hK, rfl, hown, hR, hS, hB⟩ := hrel
    have c0 := hR.c0
    by_cases hlt : K < n
    · have hwrap : IntKind.i64.wrap ((K : Int) + 1) = (K : Int) + 1 := IntWalk.i64_in _ (by omega)
      have hll := tl_len F true K
      have HC := Lib.hid (HCL.out K hlt wr hB)
      obtain ⟨vb, hvb⟩ : ∃ v, F K = v := ⟨_, rfl⟩
      rw [hvb] at HC
      go_wp2_with fail
      refine HC.out.mono ?_; rintro e w2 ⟨rfl, b2⟩
      have hown2 := own_below hown b2
      have hR2 := hR.below b2
      have hS2 := hS.below b2
      have hB2 := below_next hB b2
      have hsl := hS2.lt
      clear hown hS hR hB b2 HC c0
      cases vb with
      | true =>
        have hst : Hid (tl F true (K + 1) = tl F true K ++ [K]) := tl_yes hvb
        obtain ⟨l, hl⟩ : ∃ l, l = tl F true K := ⟨_, rfl⟩
        rw [← hl] at hown2 hst hll
        clear hl hvb
        have hownA := hown2.alloc (.cells #[.int .i64 (K : Int)] 3)
        have hSA := hS2.alloc (.cells #[.int .i64 (K : Int)] 3)
        have hRA := hR2.alloc (.cells #[.int .i64 (K : Int)] 3)
        go_wp2_with (at_builtin; refine append_nat rfl (.tmp 16) (.tmp 18) rfl (w.heap.size + 2) _ l K K _ rfl hownA w2.heap.size rfl (heap_alloc_new _ _) rfl (by omega) (by simp; omega) ?_; intro g9 c9 w9 hown9 hg9 hat9)
        go_roundw
        case rel => exact ⟨K + 1, hlt, by go_num, by rw [hst.out, List.length_append]; exact hown9, (hg9.block _ hRA.lt (fun e => by have := (hown2.lt _ e.symm).1; omega)).trans hRA, (hg9.block _ hSA.lt (fun e => by have := (hown2.lt _ e.symm).1; omega)).trans hSA, grown_below hB2 hown2 (by omega) hg9⟩
        case measure => simp [intOf]; omega
      | false =>
        have hst : Hid (tl F true (K + 1) = tl F true K) := tl_no (by rw [hvb]; exact Bool.false_ne_true)
        clear hvb
        go_wp2_with fail
        go_roundw
        case rel => exact ⟨K + 1, hlt, by go_num, by rw [hst.out]; exact hown2, hR2, hS2, hB2⟩
        case measure => simp [intOf]; omega
    · obtain rfl : K = n := by omega
      have hsl := hS.lt
      have hll := tl_len F true K
      have HO := Lib.hid (ofr_list K u3 (w.heap.size + 2) (tl F true K) wr hn hown (by omega) (fun x hx => (tl_mem.1 hx).1))
      unfold SetNew at HO
      generalize hmw : (K + 63) / 64 = mw at *
      have HMW := Lib.hid hmw
      clear hmw hown
      go_wp2_with fail
      refine HO.out.mono ?_; rintro e w4 ⟨g, rfl, hg, hrow, b4⟩
      have s4 := hS.below b4
      have B4 := below_next hB b4
      have k0 := s4.c0
      have k1 := s4.c1
      have f0 := s4.free 0
      have f1 := s4.free 1
      have hgne : g ≠ w.heap.size + 1 := by omega
      have s5 := setAt_put (N' := (K : Int)) (A' := some ⟨g, 0, none⟩) (l' := mw) (c' := mw) s4
      have j0 := s5.c0
      have j1 := s5.c1
      have HROW := Lib.hid ((hrow.setOther (a := ⟨w.heap.size + 1, 0, none⟩) (by exact hgne) (.int .i64 (K : Int))).setOther (a := ⟨w.heap.size + 1, 1, none⟩) (by exact hgne) (.slice (some ⟨g, 0, none⟩) mw mw))
      have B5 := Lib.hid ((B4.setCell (p := ⟨w.heap.size + 1, 0, none⟩) (by show w.heap.size ≤ w.heap.size + 1; omega) (.int .i64 (K : Int))).setCell (p := ⟨w.heap.size + 1, 1, none⟩) (by show w.heap.size ≤ w.heap.size + 1; omega) (.slice (some ⟨g, 0, none⟩) mw mw))
      have hgw : w.heap.size ≤ g := by omega
      clear hR hS s4 s5 c0 b4 hrow HO hB B4
      go_wp2_with fail
      refine bodyPost_ret (v := .agg #[.int .i64 K, .slice (some ⟨g, 0, none⟩) mw mw]) (by simp [results, Tryd.results30, go_sem, j0, j1]) rfl ?_
      exact ⟨g, by rw [HMW.out], hgw, by rw [HMW.out]; exact HROW.out, B5.out⟩
theorem rminl_any (A : Option Addr) (n c : Nat) (R : Nat → RowD) (w : World) (h : Rel w A n R) (hv : VRel n R) : Calls Tryd.prog 29 #[.agg #[.slice A n c]] w (SetEnd w n (setF (tl (minT n (mat R)) true n))) :=
  rlist29 A n c (minT n (mat R)) w hv.1 fun i hi u hu => below_any A n c i R u (h.below hu) hv hi
theorem rmaxl_any (A : Option Addr) (n c : Nat) (R : Nat → RowD) (w : World) (h : Rel w A n R) (hv : VRel n R) : Calls Tryd.prog 30 #[.agg #[.slice A n c]] w (SetEnd w n (setF (tl (maxT n (mat R)) true n))) :=
  rlist30 A n c (maxT n (mat R)) w hv.1 fun i hi u hu => above_any A n c i R u (h.below hu) hv hi
end Go.Proofs.YtakjdihhbndcnaaDoor
/- The reference's Down: a list that begins as another one and grows. -/
namespace Go.Proofs.YtakjdihhbndcnaaDoor
open Go.RowKit Go.Sort
theorem own_row {w : World} {g cap : Nat} {cur : Array Value} (hg : w.heap[g]? = some (.cells cur 3 (0, 0))) (hs : cur.size = cap) : w.rowIs g 3 cap (fun k => cur[k]?.getD undef) :=
  ⟨cur, hg, hs, fun i hi => by show cur[i]? = some (cur[i]?.getD undef); rw [Array.getElem?_eq_getElem (by omega)]; rfl⟩
theorem append_ali {ops : Array Oper} {rest : List Oper} {o : Oper} {a : Act} {Q : Exit → Act → World → Prop} (hgd : o.guard = none) (s x : Operand)
    (ho : o.op = .call { callee := .builtin .append, args := #[s, x], argTypes := #[40, 40] }) (base : Nat) (v : Value) (l : List Nat) (i : Nat) (I : Int) (w : World) (hs : a.eval s = v)
    (hown : w.ownsRow base 3 1 v l.length (vals l)) (B : Nat) (hx : a.eval x = .slice (some ⟨B, 0, none⟩) 1 1) (hB : w.heap[B]? = some (.cells #[.int .i64 I] 3 (0, 0))) (hI : (i : Int) = I) (hl : l.length ≤ 1000000) (hbase : base ≤ w.heap.size) (hpos : 0 < l.length)
    (h : ∀ v' w', w'.ownsRow base 3 1 v' (l ++ [i]).length (vals (l ++ [i])) → Below base w w' → (∀ b k, b < w.heap.size → k < l.length → w'.cell? ⟨b, k, none⟩ = w.cell? ⟨b, k, none⟩) → wpList Tryd.prog ops Q rest (a.put o.dst v') w') :
    wpList Tryd.prog ops Q (o :: rest) a w := by
  subst hI
  rcases hown.2 with ⟨rfl, hn⟩ | ⟨g, cap, cur, rfl, hb, hg, hnc, hcm, hcs, ht⟩
  · omega
  obtain ⟨ti, hi, hz, hsz', hb'⟩ := info_parts Tryd.info3
  have hr := own_row (cap := cap) hg (by omega)
  have hcurL : ∀ j, j < l.length → cur[j]? = some (.int .i64 (l.getD j 0 : Nat)) := fun j hj => by
    have h1 : (cur.toList.take (l.length * 1))[j]? = (vals l)[j]? := by rw [ht]
    rw [List.getElem?_take_of_lt (by omega)] at h1
    rw [← Array.getElem?_toList, h1]
    unfold vals
    rw [List.getElem?_map, List.getElem?_eq_getElem hj, getD_lt hj]; rfl
  have hcur : ∀ j u, (vals l)[j]? = some u → w.cell? ⟨g, 0 + j, none⟩ = some u := fun j u hu => by
    have hj : j < l.length := by
      have := (List.getElem?_eq_some_iff.1 hu).1
      rw [vals_len] at this; exact this
    rw [Nat.zero_add, hr.cell (i := j) (by omega), hcurL j hj]
    unfold vals at hu
    rw [List.getElem?_map, List.getElem?_eq_getElem hj] at hu
    rw [getD_lt hj]; exact hu
  have hnew : ∀ j u, [Value.int .i64 (i : Int)][j]? = some u → w.cell? ((⟨B, 0, none⟩ : Addr).add j) = some u := fun j u hu => by
    have hj : j = 0 := by
      have := (List.getElem?_eq_some_iff.1 hu).1
      simpa using this
    subst hj
    have e0 : (⟨B, 0, none⟩ : Addr).add 0 = ⟨B, 0, none⟩ := by unfold Addr.add; split <;> simp_all
    rw [e0]
    exact (cell_of_row _ _ 0 _ _ _ hB).trans hu
  refine wpList_append_arg w hgd s x 40 ho 3 ti _ 1 8 Tryd.underlying40 hi hz hsz' hb' rfl (by decide) g 0 l.length cap (vals l) hs (by rw [vals_len]; omega) hcur ⟨B, 0, none⟩ 1 1 [.int .i64 (i : Int)] hx rfl hnew (fun u hu => by simp at hu; subst hu; rfl)
    (fun hroom j hj => by
      obtain rfl : j = 0 := by simpa using hj
      exact ⟨by rw [hr.cell (i := 0 + l.length * 1 + 0) (by omega)]; rfl, hr.frozen _⟩) (by unfold maxLen; omega) (by omega) (fun hroom => ?_) (fun hg v' w' hown' hgr => ?_)
  · have e : w.setCells g (0 + l.length * 1) [.int .i64 (i : Int)] = w.setCell ⟨g, l.length, none⟩ (.int .i64 (i : Int)) := by simp [World.setCells]
    rw [e]
    obtain ⟨cur2, hg2, hs2, hel0⟩ := hr.set l.length (.int .i64 (i : Int))
    have hel2 : ∀ j, j < cap → cur2[j]? = some (if j = l.length then .int .i64 (i : Int) else cur[j]?.getD undef) := hel0
    refine h _ _ ⟨by rw [vals_len]; omega, .inr ⟨g, cap, cur2, by rw [List.length_append]; rfl, hb, hg2, by rw [List.length_append]; simpa using hroom, hcm, by omega, ?_⟩⟩ ((Below.refl _ _).setCell (by exact hb) _) (fun b k hbl hk => ?_)
    · rw [vals_snoc, List.length_append]
      apply List.ext_getElem?
      intro j
      by_cases hj : j < l.length
      · rw [List.getElem?_take_of_lt (by simp; omega), Array.getElem?_toList, hel2 j (by omega), if_neg (by omega), List.getElem?_append_left (by rw [vals_len]; exact hj), hcurL j hj]
        unfold vals
        rw [List.getElem?_map, List.getElem?_eq_getElem hj, getD_lt hj]; rfl
      · by_cases e2 : j = l.length
        · subst e2
          rw [List.getElem?_take_of_lt (by simp), Array.getElem?_toList, hel2 _ (by omega), if_pos rfl, List.getElem?_append_right (by rw [vals_len]; omega), vals_len]; simp
        · rw [List.getElem?_eq_none (by rw [List.length_take]; simp; omega), List.getElem?_eq_none (by rw [List.length_append, vals_len]; simp; omega)]
    · by_cases e3 : b = g
      · subst e3
        have h1 : (w.setCell ⟨b, l.length, none⟩ (.int .i64 (i : Int))).rowIs b 3 cap _ := hr.set l.length (.int .i64 (i : Int))
        refine (h1.cell (i := k) (by omega)).trans (Eq.trans ?_ (hr.cell (i := k) (by omega)).symm)
        show some (if k = l.length then _ else cur[k]?.getD undef) = some (cur[k]?.getD undef)
        rw [if_neg (by omega)]
      · exact World.cell?_of_block (a := ⟨b, k, none⟩) (Below.heap_setCell w _ _ b e3)
  · refine h v' w' ?_ ⟨hgr.os, hgr.tape, hgr.output, hgr.size, fun k hk => hgr.block k (by omega) (by simp)⟩ (fun b k hbl _ => World.cell?_of_block (a := ⟨b, k, none⟩) (hgr.block b hbl (by simp)))
    rw [vals_snoc, List.length_append]
    exact own_mono hown' hbase
structure DnAt (w0 wr : World) (v : Value) (l L : List Nat) (bl : Nat) : Prop where
  own : wr.ownsRow w0.heap.size 3 1 v L.length (vals L)
  ints : ∀ k, k < l.length → wr.cell? ⟨bl, k, none⟩ = some (.int .i64 (l.getD k 0 : Nat))
  len : l.length ≤ L.length
  lt : 0 < l.length → bl < wr.heap.size
  f : Below w0.heap.size w0 wr
theorem DnAt.next {w0 wr w2 : World} {v : Value} {l L : List Nat} {bl : Nat} (h : DnAt w0 wr v l L bl) (b : Below wr.heap.size wr w2) : DnAt w0 w2 v l L bl :=
  ⟨own_below h.own b, fun k hk => (b.cell (p := ⟨bl, k, none⟩) (h.lt (by omega))).trans (h.ints k hk), h.len, fun hp => Nat.lt_of_lt_of_le (h.lt hp) b.size, below_next h.f b⟩
/- what has been appended: the elements before I, and I itself by the first D of the list -/
def DnIn (T : Nat → Nat → Bool) (l : List Nat) (I D : Nat) (x : Nat) : Prop := x ∈ l ∨ (∃ k, k < l.length ∧ x < I ∧ T x (l.getD k 0) = true) ∨ (x = I ∧ ∃ k, k < D ∧ k < l.length ∧ T x (l.getD k 0) = true)
theorem DnIn.next {T : Nat → Nat → Bool} {l : List Nat} {I x : Nat} : DnIn T l I l.length x ↔ DnIn T l (I + 1) 0 x := by
  unfold DnIn
  constructor
  · rintro (h | ⟨k, h1, h2, h3⟩ | ⟨rfl, k, h1, h2, h3⟩)
    · exact .inl h
    · exact .inr (.inl ⟨k, h1, by omega, h3⟩)
    · exact .inr (.inl ⟨k, h2, by omega, h3⟩)
  · rintro (h | ⟨k, h1, h2, h3⟩ | ⟨rfl, k, h1, h2, h3⟩)
    · exact .inl h
    · by_cases e : x = I
      · exact .inr (.inr ⟨e, k, h1, h1, h3⟩)
      · exact .inr (.inl ⟨k, h1, by omega, h3⟩)
    · omega
theorem DnIn.no {T : Nat → Nat → Bool} {l : List Nat} {I D x : Nat} (h : T I (l.getD D 0) = false) : DnIn T l I D x ↔ DnIn T l I (D + 1) x := by
  unfold DnIn
  constructor
  · rintro (h | h | ⟨rfl, k, h1, h2, h3⟩)
    · exact .inl h
    · exact .inr (.inl h)
    · exact .inr (.inr ⟨rfl, k, by omega, h2, h3⟩)
  · rintro (h | h1 | ⟨rfl, k, h1, h2, h3⟩)
    · exact .inl h
    · exact .inr (.inl h1)
    · by_cases e : k = D
      · subst e; rw [h] at h3; cases h3
      · exact .inr (.inr ⟨rfl, k, by omega, h2, h3⟩)
theorem DnIn.yes {T : Nat → Nat → Bool} {l : List Nat} {I D x : Nat} (hD : D < l.length) (h : T I (l.getD D 0) = true) : (DnIn T l I D x ∨ x = I) ↔ DnIn T l I (D + 1) x := by
  unfold DnIn
  constructor
  · rintro ((h | h | ⟨rfl, k, h1, h2, h3⟩) | rfl)
    · exact .inl h
    · exact .inr (.inl h)
    · exact .inr (.inr ⟨rfl, k, by omega, h2, h3⟩)
    · exact .inr (.inr ⟨rfl, D, by omega, hD, h⟩)
  · rintro (h | h | ⟨rfl, k, h1, h2, h3⟩)
    · exact .inl (.inl h)
    · exact .inl (.inr (.inl h))
    · exact .inr rfl
set_option maxRecDepth 100000 in
set_option maxHeartbeats 8000000 in
theorem rdown_any (A S : Option Addr) (n c cs : Nat) (R : Nat → RowD) (s : Nat → Nat) (w : World) (h : Rel w A n R) (hv : VRel n R) (hS : Wds w S ((n + 63) / 64) s) (h40 : n ≤ 60) :
    Calls Tryd.prog 37 #[.agg #[.slice A n c], .agg #[.int .i64 n, .slice S ((n + 63) / 64) cs]] w (SetNew w n ((n + 63) / 64) (setF (tl (dwn n (mat R) s) true n))) := by
  have hn := hv.1
  have HV := Lib.hid hv
  have HH := Lib.hid h
  have HS := Lib.hid hS
  have r0 := ((relAt_new w A n c).alloc (.cells #[.int .i64 n, .slice S ((n + 63) / 64) cs] 37)).alloc (.cells #[.int .i64 0, .slice none 0 0] 37)
  have q0 := (setAt_new (w.alloc (.cells #[.slice A n c] 24)) n S ((n + 63) / 64) cs).alloc (.cells #[.int .i64 0, .slice none 0 0] 37)
  have s0 := setAt_new ((w.alloc (.cells #[.slice A n c] 24)).alloc (.cells #[.int .i64 n, .slice S ((n + 63) / 64) cs] 37)) 0 none 0 0
  have hz : (w.alloc (.cells #[.slice A n c] 24)).heap.size = w.heap.size + 1 := by simp
  have hz2 : ((w.alloc (.cells #[.slice A n c] 24)).alloc (.cells #[.int .i64 n, .slice S ((n + 63) / 64) cs] 37)).heap.size = w.heap.size + 2 := by simp
  rw [hz] at q0
  rw [hz2] at s0
  have b0 : Below w.heap.size w (((w.alloc (.cells #[.slice A n c] 24)).alloc (.cells #[.int .i64 n, .slice S ((n + 63) / 64) cs] 37)).alloc (.cells #[.int .i64 0, .slice none 0 0] 37)) := (((Below.refl _ _).alloc (Nat.le_refl _) _).alloc (by simp) _).alloc (by simp; omega) _
  have hN64 : n ≤ 64 * ((n + 63) / 64) := by omega
  have hl9 : (n + 63) / 64 ≤ 9 := by omega
  have hmw : Hid ((n + 63) / 64 = (n + 63) / 64) := Lib.hid rfl
  obtain ⟨mw, hmw⟩ : ∃ mw, (n + 63) / 64 = mw := ⟨_, rfl⟩
  have HMW := Lib.hid hmw
  rw [hmw] at HS r0 q0 s0 b0 hN64 hl9
  rw [hmw]
  obtain ⟨l, hm⟩ : ∃ l, l = mem s n := ⟨_, rfl⟩
  have hmm : Hid (∀ x, x ∈ l → x < n) := Lib.hid fun x hx => by rw [hm] at hx; exact (mem_in.1 hx).1
  have hmi : Hid (∀ x, x ∈ l ↔ x < n ∧ bt s x = true) := Lib.hid fun x => by rw [hm]; exact mem_in
  have hml : l.length ≤ n := by rw [hm]; exact mem_len_le s n
  have HMM := Lib.hid hm
  clear hz hz2 h hS hm hv hmw
  go_enter Tryd.func37, Tryd.ntmps37
  go_upto_region 1 with fail
  generalize ((w.alloc (.cells #[.slice A n c] 24)).alloc (.cells #[.int .i64 n, .slice S mw cs] 37)).alloc (.cells #[.int .i64 0, .slice none 0 0] 37) = W at *
  have d0 := q0.c0
  have d1 := q0.c1
  have HM := Lib.hid (refMembers_any n S mw cs s W (HS.out.below b0) hN64 hl9)
  rw [← HMM.out] at HM
  unfold RowOut at HM
  go_wp2_with fail
  refine HM.out.mono ?_; rintro e w4 ⟨vm, rfl, hown, b4⟩
  have hwW : w.heap.size + 2 < W.heap.size := s0.lt
  obtain ⟨Am, cm, rfl, hIm, _⟩ := own_ints hown
  obtain ⟨bl, hA, hint⟩ : ∃ bl, (0 < l.length → Am = some ⟨bl, 0, none⟩) ∧ DnAt W w4 (.slice Am l.length cm) l l bl := by
    by_cases hp : 0 < l.length
    · obtain ⟨g, cap, hv2, _, hlt⟩ := hown.form hp
      injection hv2 with e1 _ e3
      subst e1 e3
      obtain ⟨b2, o2, hA2, hb2, hc2⟩ := hIm hp
      have e4 : b2 = g ∧ o2 = 0 := by
        simp only [Option.some.injEq, Addr.mk.injEq] at hA2
        exact ⟨hA2.1.symm, hA2.2.1.symm⟩
      obtain ⟨rfl, rfl⟩ := e4
      exact ⟨b2, fun _ => rfl, hown, fun k hk => by have := hc2 k hk; rw [Nat.zero_add] at this; exact this, Nat.le_refl _, fun _ => hb2, b4⟩
    · exact ⟨0, fun h => absurd h hp, hown, fun k hk => absurd hk (by omega), Nat.le_refl _, fun h => absurd h hp, b4⟩
  have hin0 : Hid (∀ x, x ∈ l ↔ DnIn (mat R) l 0 0 x) := Lib.hid fun x => ⟨.inl, fun h => by
    rcases h with h | ⟨k, _, h, _⟩ | ⟨_, k, h, _⟩
    · exact h
    · omega
    · omega⟩
  have HA := Lib.hid hA
  clear d0 d1 HM hown hIm b4 hA
  go_wp2_with fail
  go_loopw [6, 7, 8] (fun v i _ wr => ∃ (I : Nat) (L : List Nat), I ≤ n ∧ i = .int .i64 I ∧ DnAt W wr v l L bl ∧ L.length ≤ l.length + I * l.length ∧ Hid (∀ x, x ∈ L ↔ DnIn (mat R) l I 0 x)) (fun _ i _ _ => n - (intOf i).toNat)
  case atStart => exact ⟨0, l, Nat.zero_le _, rfl, hint, by omega, hin0⟩
  case round =>
    clear hint hin0
    obtain ⟨I, L, hI, rfl, hD, hLn, hIn⟩ := hrel
    have c0 := (r0.below hD.f).c0
    by_cases hlt : I < n
    · have hmul : I * l.length ≤ 60 * 60 := Nat.mul_le_mul (by omega) (by omega)
      go_wp2_with fail
      clear c0
      go_loopw [6, 8] (fun v j wr => ∃ (D : Nat) (L : List Nat), D ≤ l.length ∧ j = .int .i64 D ∧ DnAt W wr v l L bl ∧ L.length ≤ l.length + I * l.length + D ∧ Hid (∀ x, x ∈ L ↔ DnIn (mat R) l I D x)) (fun _ j _ => l.length - (intOf j).toNat)
      case atStart => exact ⟨0, L, Nat.zero_le _, rfl, hD, by omega, hIn⟩
      case round =>
        clear hD hIn hLn
        obtain ⟨D, L, hDn, rfl, hD, hLn, hIn⟩ := hrel
        by_cases hlt2 : D < l.length
        · have hAe := HA.out (by omega)
          subst hAe
          have z0 := hD.ints D hlt2
          have hkn : l.getD D 0 < n := by rw [getD_lt hlt2]; exact hmm.out _ (List.getElem_mem _)
          obtain ⟨v, hv⟩ : ∃ v, mat R I (l.getD D 0) = v := ⟨_, rfl⟩
          have HVV := Lib.hid hv
          have k0 := cell_regrown (r0.below hD.f).c0
          have k1 := cell_regrown z0
          have CA := Lib.hid (fun d os => Calls.regrown_of (rless_any A n c I (l.getD D 0) R (grow (redrawn wr d) os) ((HH.out.below (below_next b0 hD.f)).below (below_regrown wr d os)) HV.out hlt hkn))
          rw [hv] at CA
          clear z0 hv
          have hst : Hid (v = false → ∀ x, x ∈ L ↔ DnIn (mat R) l I (D + 1) x) := Lib.hid fun h x => (hIn.out x).trans (DnIn.no (HVV.out.trans h))
          have hst2 : Hid (v = true → ∀ x, x ∈ L ++ [I] ↔ DnIn (mat R) l I (D + 1) x) := Lib.hid fun h x => by
            rw [List.mem_append, List.mem_singleton, hIn.out x]; exact DnIn.yes hlt2 (HVV.out.trans h)
          clear HVV hIn
          generalize l.getD D 0 = y at *
          go_wp2_with fail
          refine wp_region_quiet_below (by kernel_rfl) (by kernel_rfl) ?_
          repeat (first | go_big_quiet_step (first | with_reducible exact CA.out _ _) | quiet_step (first | with_reducible exact CA.out _ _))
          refine wpQuiet_nil ?_
          intro _ hw'
          obtain ⟨⟨dq, osq⟩, hw''⟩ := hw'
          subst hw''
          have hD2 := hD.next (below_regrown wr dq osq)
          clear k0 k1 CA hD
          generalize grow (redrawn wr dq) osq = wr at *
          cases v with
          | false =>
            have hIn2 := Lib.hid (hst.out rfl)
            clear hst hst2
            go_wp2_with fail
            go_roundw
            case rel => exact ⟨D + 1, L, hlt2, by go_num, hD2, by omega, hIn2⟩
            case measure => simp [intOf]; omega
          | true =>
            have hIn2 := Lib.hid (hst2.out rfl)
            clear hst hst2
            have bA : Below wr.heap.size wr (wr.alloc (.cells #[.int .i64 (I : Int)] 3)) := (Below.refl _ _).alloc (Nat.le_refl _) _
            have hDA := hD2.next bA
            have hownA := hDA.own
            have hlL := hD2.len
            have hsz := hDA.f.size
            go_wp2_with (at_builtin; refine append_ali rfl (.tmp 32) (.tmp 34) rfl W.heap.size _ L I I _ rfl hownA wr.heap.size rfl (heap_alloc_new _ _) rfl (by omega) hsz (by omega) ?_; intro v9 w9 hown9 b9 hc9)
            have hD9 : DnAt W w9 v9 l (L ++ [I]) bl := ⟨hown9, fun k hk => (hc9 bl k (hDA.lt (by omega)) (by omega)).trans (hDA.ints k hk), by rw [List.length_append]; omega, fun hp => Nat.lt_of_lt_of_le (hDA.lt hp) b9.size, hDA.f.trans b9⟩
            clear hown9 b9 hc9 hDA hownA hsz bA
            go_roundw
            case rel => exact ⟨D + 1, L ++ [I], hlt2, by go_num, hD9, by rw [List.length_append]; simp; omega, hIn2⟩
            case measure => simp [intOf]; omega
        · obtain rfl : D = l.length := by omega
          have hIn2 : Hid (∀ x, x ∈ L ↔ DnIn (mat R) l (I + 1) 0 x) := Lib.hid fun x => (hIn.out x).trans DnIn.next
          have hmu2 : (I + 1) * l.length = I * l.length + l.length := Nat.succ_mul _ _
          clear hIn
          go_wp2_with fail
          go_roundw
          case rel => exact ⟨I + 1, L, by omega, by go_num, hD, by omega, hIn2⟩
          case measure => simp [intOf]; omega
    · obtain rfl : I = n := by omega
      have hmul : I * l.length ≤ 60 * 60 := Nat.mul_le_mul (by omega) (by omega)
      have hset : Hid (setF L = setF (tl (dwn I (mat R) s) true I)) := Lib.hid (setF_eq fun x => by
        rw [hIn.out, tl_mem]
        unfold DnIn dwn
        rw [hmi.out, Bool.or_eq_true, List.any_eq_true]
        constructor
        · rintro (h | ⟨k, h1, h2, h3⟩ | ⟨_, k, h1, _⟩)
          · exact ⟨h.1, .inl h.2⟩
          · have hk := (hmi.out _).1 (List.getElem_mem h1)
            rw [getD_lt h1] at h3
            exact ⟨h2, .inr ⟨l[k], List.mem_range.2 hk.1, by rw [h3, hk.2]; rfl⟩⟩
          · omega
        · rintro ⟨h1, h2 | ⟨k, hk, h3⟩⟩
          · exact .inl ⟨h1, h2⟩
          · rw [Bool.and_eq_true] at h3
            obtain ⟨q, hq⟩ := List.mem_iff_getElem?.1 ((hmi.out k).2 ⟨List.mem_range.1 hk, h3.2⟩)
            obtain ⟨hq1, hq2⟩ := List.getElem?_eq_some_iff.1 hq
            exact .inr (.inl ⟨q, hq1, h1, by rw [getD_lt hq1, hq2]; exact h3.1⟩))
      have HO := Lib.hid (ofr_list I u6 W.heap.size L wr hn hD.own (by omega) (fun x hx => by
        rcases (hIn.out x).1 hx with h | ⟨k, _, h, _⟩ | ⟨_, k, h, _⟩
        · exact hmm.out x h
        · exact h
        · omega))
      rw [hset.out, HMW.out] at HO
      unfold SetNew at HO
      have d0 := (q0.below hD.f).c0
      have s4 := s0.below hD.f
      have B4 := below_next b0 hD.f
      have hwr := hD.f.size
      clear hD hIn hset
      go_wp2_with fail
      refine HO.out.mono ?_; rintro e w8 ⟨g, rfl, hg, hrow, b8⟩
      have s8 := s4.below b8
      have B8 := below_next B4 b8
      have k0 := s8.c0
      have k1 := s8.c1
      have f0 := s8.free 0
      have f1 := s8.free 1
      have hgne : g ≠ w.heap.size + 2 := by omega
      have s5 := setAt_put (N' := (I : Int)) (A' := some ⟨g, 0, none⟩) (l' := mw) (c' := mw) s8
      have j0 := s5.c0
      have j1 := s5.c1
      have HROW := Lib.hid ((hrow.setOther (a := ⟨w.heap.size + 2, 0, none⟩) (by exact hgne) (.int .i64 (I : Int))).setOther (a := ⟨w.heap.size + 2, 1, none⟩) (by exact hgne) (.slice (some ⟨g, 0, none⟩) mw mw))
      have B5 := Lib.hid ((B8.setCell (p := ⟨w.heap.size + 2, 0, none⟩) (by show w.heap.size ≤ w.heap.size + 2; omega) (.int .i64 (I : Int))).setCell (p := ⟨w.heap.size + 2, 1, none⟩) (by show w.heap.size ≤ w.heap.size + 2; omega) (.slice (some ⟨g, 0, none⟩) mw mw))
      have hgw : w.heap.size ≤ g := by omega
      clear s4 B4 s8 s5 c0 d0 b8 hrow HO B8
      go_wp2_with fail
      refine bodyPost_ret (v := .agg #[.int .i64 I, .slice (some ⟨g, 0, none⟩) mw mw]) (by simp [results, Tryd.results37, go_sem, j0, j1]) rfl ?_
      exact ⟨g, rfl, hgw, HROW.out, B5.out⟩
end Go.Proofs.YtakjdihhbndcnaaDoor
