/- RelationEither: the mathematics of places in an order and of a cycle's numbers; the contracts by case. -/
import Derived.Test.YtfjikeejifhnbaaDoorRTab
namespace Go.Proofs.YtfjikeejifhnbaaDoor
open Go.RowKit
/- the places of the first K numbers, from 1 on -/
def plc (o : List Nat) : Nat → Nat → Nat
  | 0, _ => 0
  | K + 1, x => if o[K]? = some x then K + 1 else plc o K x
theorem plc_some {o : List Nat} {x : Nat} : ∀ {K : Nat}, plc o K x ≠ 0 → ∃ k, k < K ∧ o[k]? = some x
  | 0, h => absurd rfl h
  | K + 1, h => by
    unfold plc at h
    by_cases e : o[K]? = some x
    · exact ⟨K, by omega, e⟩
    · rw [if_neg e] at h
      obtain ⟨k, hk, h2⟩ := plc_some h
      exact ⟨k, by omega, h2⟩
theorem nodup_inj {o : List Nat} (h : o.Nodup) {k l x : Nat} (hk : o[k]? = some x) (hl : o[l]? = some x) : k = l := by
  have key : ∀ a b, a < b → o[a]? = some x → o[b]? = some x → False := fun a b hab ha hb => by
    obtain ⟨h1, h2⟩ := List.getElem?_eq_some_iff.1 ha
    obtain ⟨h3, h4⟩ := List.getElem?_eq_some_iff.1 hb
    exact (List.pairwise_iff_getElem.1 h) a b h1 h3 hab (h2.trans h4.symm)
  rcases Nat.lt_trichotomy k l with h1 | h1 | h1
  · exact absurd (key k l h1 hk hl) id
  · exact h1
  · exact absurd (key l k h1 hl hk) id
theorem plc_at {o : List Nat} (h : o.Nodup) {k x : Nat} (hk : o[k]? = some x) : ∀ {K : Nat}, k < K → plc o K x = k + 1
  | 0, hl => absurd hl (Nat.not_lt_zero _)
  | K + 1, hl => by
    unfold plc
    by_cases e : o[K]? = some x
    · rw [if_pos e, nodup_inj h hk e]
    · rw [if_neg e]
      by_cases e2 : k = K
      · exact absurd (e2 ▸ hk) e
      · exact plc_at h hk (by omega)
theorem plc_new {o : List Nat} (h : o.Nodup) {K x : Nat} (hK : o[K]? = some x) : plc o K x = 0 := by
  by_cases e : plc o K x = 0
  · exact e
  · obtain ⟨k, hk, h2⟩ := plc_some e
    have := nodup_inj h h2 hK
    omega
theorem plc_le {o : List Nat} {x : Nat} : ∀ (K : Nat), plc o K x ≤ K
  | 0 => Nat.le_refl _
  | K + 1 => by
    unfold plc
    have := plc_le (o := o) (x := x) K
    split <;> omega
theorem topo_place {T : Nat → Nat → Bool} {n : Nat} {o : List Nat} (h : Topo T n o) (hl : o.length = n) {i j : Nat} (hi : i < n) (hj : j < n) (ht : T i j = true) : plc o n i < plc o n j := by
  obtain ⟨p, hp⟩ := List.mem_iff_getElem?.1 (topo_all h hl j hj)
  obtain ⟨q, hq, hq2⟩ := h.prec p j hp i hi ht
  have hpn : p < n := by rw [← hl]; exact (List.getElem?_eq_some_iff.1 hp).1
  rw [plc_at h.nodup hp hpn, plc_at h.nodup hq2 (by omega)]
  omega
structure Cyc (T : Nat → Nat → Bool) (n s : Nat) (c : List Nat) : Prop where
  pos : 0 < c.length
  len : c.length ≤ n
  first : c[0]? = some s
  lt : ∀ (k x : Nat), c[k]? = some x → x < n
  inj : ∀ (k l x : Nat), c[k]? = some x → c[l]? = some x → k = l
  edge : ∀ (k x y : Nat), c[k]? = some x → c[(k + 1) % c.length]? = some y → T x y = true
  least : ∀ (k x : Nat), c[k]? = some x → s ≤ x
theorem cyc_of {T : Nat → Nat → Bool} {n s : Nat} (hf : firstCyc n T = some s) : Cyc T n s (cycleFrom T n s) := by
  obtain ⟨hs, hc, hmin⟩ := firstCyc_some.1 hf
  have hd : dist T n s s ≠ 0 := dist_pos hs hs hc
  obtain ⟨hd1, _, _⟩ := dist_spec hd
  obtain ⟨v, hv⟩ : ∃ v, dist T n s s = v + 1 := ⟨dist T n s s - 1, by omega⟩
  have hcf : cycleFrom T n s = s :: pathL T n (dist T n s) v s := by unfold cycleFrom; rw [hv]; rfl
  have hP := pathL_spec (T := T) (n := n) (s := s) v s hv
  have hlen : (cycleFrom T n s).length = v + 1 := by rw [hcf, List.length_cons, pathL_len]
  rw [hcf] at hlen ⊢
  generalize pathL T n (dist T n s) v s = P at *
  have hall : ∀ k x, (s :: P)[k]? = some x → x < n ∧ dist T n s x = v + 1 - k ∧ k < v + 1 := fun k x hx => by
    match k, hx with
    | 0, hx =>
      obtain rfl : s = x := by simpa using hx
      exact ⟨hs, hv, by omega⟩
    | k + 1, hx =>
      obtain ⟨h1, h2, h3, _⟩ := hP k x (by simpa using hx)
      exact ⟨h1, by omega, by omega⟩
  have hedge : ∀ k x y, (s :: P)[k]? = some x → (s :: P)[k + 1]? = some y → T x y = true := fun k x y hx hy =>
    (hP k y (by simpa using hy)).2.2.2 x hx
  have hfrom : ∀ k x, (s :: P)[k + 1]? = some x → clo n T s x = true := by
    intro k
    induction k with
    | zero => exact fun x hx => clo_base (hedge 0 s x rfl hx)
    | succ k ih =>
      intro x hx
      have hk1 : k + 1 < (s :: P).length := by have := (List.getElem?_eq_some_iff.1 hx).1; omega
      have hy := List.getElem?_eq_getElem hk1
      exact clo_trans n T s _ x hs (hall _ _ hy).1 (hall _ _ hx).1 (ih _ hy) (clo_base (hedge _ _ _ hy hx))
  refine ⟨by rw [hlen]; omega, by rw [hlen]; omega, rfl, fun k x hx => (hall k x hx).1, fun k l x hk hl => ?_, fun k x y hx hy => ?_, fun k x hx => ?_⟩
  · have h1 := hall k x hk
    have h2 := hall l x hl
    omega
  · rw [hlen] at hy
    have hk := (hall k x hx).2.2
    by_cases e : k = v
    · subst e
      rw [Nat.mod_self] at hy
      obtain rfl : s = y := by simpa using hy
      obtain ⟨hx1, hx2, _⟩ := hall k x hx
      have h1 : dist T n s x = 1 := by omega
      have h2 := (dist_spec (T := T) (n := n) (s := s) (i := x) (by omega)).2.1
      rw [h1] at h2
      exact (reach_one hs).1 h2
    · rw [Nat.mod_eq_of_lt (by omega)] at hy
      exact hedge k x y hx hy
  · rcases Nat.lt_or_ge x s with hlt | hge
    · exfalso
      have h0 := hmin x hlt
      obtain ⟨hx1, hx2, hx3⟩ := hall k x hx
      have h1 : clo n T x s = true := dist_clo hs hx1 (by omega)
      match k, hx with
      | 0, hx =>
        obtain rfl : s = x := by simpa using hx
        omega
      | k + 1, hx =>
        have := clo_trans n T x s x hx1 hs hx1 h1 (hfrom k x hx)
        rw [h0] at this; cases this
    · exact hge
/- which numbers the first K ones hold -/
def sn (c : List Nat) : Nat → Nat → Bool
  | 0, _ => false
  | K + 1, x => if c[K]? = some x then true else sn c K x
theorem sn_some {c : List Nat} {x : Nat} : ∀ {K : Nat}, sn c K x = true → ∃ k, k < K ∧ c[k]? = some x
  | 0, h => by cases h
  | K + 1, h => by
    unfold sn at h
    by_cases e : c[K]? = some x
    · exact ⟨K, by omega, e⟩
    · rw [if_neg e] at h
      obtain ⟨k, hk, h2⟩ := sn_some h
      exact ⟨k, by omega, h2⟩
theorem Cyc.new {T : Nat → Nat → Bool} {n s : Nat} {c : List Nat} (h : Cyc T n s c) {K x : Nat} (hK : c[K]? = some x) : sn c K x = false := by
  cases e : sn c K x
  · rfl
  · obtain ⟨k, hk, h2⟩ := sn_some e
    have := h.inj _ _ _ h2 hK
    omega
theorem acy_first {n : Nat} {T : Nat → Nat → Bool} {o : List Nat} (h : orderOf n T = some o) : firstCyc n T = none := firstCyc_none.2 (order_acy h)
theorem cyc_first {n : Nat} {T : Nat → Nat → Bool} (h : orderOf n T = none) : ∃ s, firstCyc n T = some s := by
  cases e : firstCyc n T
  · obtain ⟨r, hr⟩ := order_some (firstCyc_none.1 e)
    rw [h] at hr; cases hr
  · exact ⟨_, rfl⟩
/- the contracts of Order and Cycle, by case -/
section
variable {w : World} {n c : Nat} {A : Option Addr} {R : Nat → RowD}
theorem order_yes (h : Rel w A n R) (hv : VRel n R) (hT : Tab w) {o : List Nat} (ho : orderOf n (mat R) = some o) :
    Calls Tryd.prog 30 #[.agg #[.slice A n c]] w fun e w' => ∃ AO cO, e = .returned (.tuple #[.slice AO n cO, .int .i64 0]) ∧ w'.ownsRow w.heap.size 3 1 (.slice AO n cO) n (vals o) ∧ Below w.heap.size w w' :=
  (order_ok A n c R w h hv hT).mono fun e w' he => by
    rcases he with ⟨o', v, h1, rfl, h3, h4⟩ | ⟨h1, _⟩
    · rw [ho] at h1
      injection h1 with h1
      subst h1
      have hl := (order_topo ho).2
      obtain ⟨AO, cO, rfl, _⟩ := own_ints h3
      rw [hl] at h3 ⊢
      exact ⟨AO, cO, rfl, h3, h4⟩
    · rw [ho] at h1; cases h1
theorem order_no (h : Rel w A n R) (hv : VRel n R) (hT : Tab w) (ho : orderOf n (mat R) = none) :
    Calls Tryd.prog 30 #[.agg #[.slice A n c]] w fun e w' => e = .returned (.tuple #[.slice none 0 0, .int .i64 10]) ∧ Below w.heap.size w w' :=
  (order_ok A n c R w h hv hT).mono fun e w' he => by
    rcases he with ⟨o', v, h1, _⟩ | ⟨_, h2, h3⟩
    · rw [ho] at h1; cases h1
    · exact ⟨h2, h3⟩
theorem cycle_yes (h : Rel w A n R) (hv : VRel n R) (hT : Tab w) {s : Nat} (hs : firstCyc n (mat R) = some s) :
    Calls Tryd.prog 31 #[.agg #[.slice A n c]] w fun e w' => ∃ AO cO, e = .returned (.tuple #[.slice AO (cycleFrom (mat R) n s).length cO, .int .i64 0]) ∧ w'.ownsRow w.heap.size 3 1 (.slice AO (cycleFrom (mat R) n s).length cO) (cycleFrom (mat R) n s).length (vals (cycleFrom (mat R) n s)) ∧ Below w.heap.size w w' :=
  (cycle_ok A n c R w h hv hT).mono fun e w' he => by
    rcases he with ⟨s', v, h1, rfl, h3, h4⟩ | ⟨h1, _⟩
    · rw [hs] at h1
      injection h1 with h1
      subst h1
      obtain ⟨AO, cO, rfl, _⟩ := own_ints h3
      exact ⟨AO, cO, rfl, h3, h4⟩
    · rw [hs] at h1; cases h1
theorem cycle_no (h : Rel w A n R) (hv : VRel n R) (hT : Tab w) (hs : firstCyc n (mat R) = none) :
    Calls Tryd.prog 31 #[.agg #[.slice A n c]] w fun e w' => e = .returned (.tuple #[.slice none 0 0, .int .i64 7]) ∧ Below w.heap.size w w' :=
  (cycle_ok A n c R w h hv hT).mono fun e w' he => by
    rcases he with ⟨s', v, h1, _⟩ | ⟨_, h2, h3⟩
    · rw [hs] at h1; cases h1
    · exact ⟨h2, h3⟩
end
theorem vals_get {l : List Nat} {k x : Nat} (h : l[k]? = some x) : (vals l)[k]? = some (.int .i64 (x : Nat)) := by
  unfold vals; rw [List.getElem?_map, h]; rfl
/- the cell of a list of numbers -/
theorem list_cell {w : World} {base n c : Nat} {A : Option Addr} {l : List Nat} (h : w.ownsRow base 3 1 (.slice A n c) n (vals l)) {k x : Nat} (hk : k < n) (hx : l[k]? = some x) : ∃ g, A = some ⟨g, 0, none⟩ ∧ w.cell? ⟨g, k, none⟩ = some (.int .i64 (x : Nat)) := by
  obtain ⟨g, cap, hv, _, _⟩ := h.form (by omega)
  injection hv with e1 _ e2
  subst e1 e2
  exact ⟨g, rfl, (h.cellAt k (by omega)).trans (vals_get hx)⟩
end Go.Proofs.YtfjikeejifhnbaaDoor
