/- flow.Check and the reference's Check say the same. -/
import Derived.Test.YtjdceafkcakbjaaFCkA
namespace Go.Proofs.Ytjdceafkcakbjaa
open Go.RowKit
def FlowP (n m ml s t : Nat) (E : Nat → EdgeD) (g : Nat → Int) : Prop := ml = m ∧ (∀ i, i < m → 0 ≤ g i ∧ g i ≤ (E i).c) ∧ ∀ a, a < n → ((netOf n m E).bal g a = 0 ∨ a = s ∨ a = t)
theorem isFlow_any (n s t m ml c cl : Nat) (v : Bool) (A L : Option Addr) (E : Nat → EdgeD) (g : Nat → Int) (w : World) (h : Edges w A m E) (hv : VNet n m E) (hL : Ints w L ml g) (hvv : v = true ↔ FlowP n m ml s t E g) :
    Calls Try.prog 40 #[.agg #[.int .i64 n, .slice A m c], .int .i64 s, .int .i64 t, .slice L ml cl] w fun e w' => e = .returned (.bool v) ∧ Below w.heap.size w w' := by
  by_cases hl : ml = m
  · subst hl
    by_cases hr : ∀ i, i < ml → 0 ≤ g i ∧ g i ≤ (E i).c
    · by_cases hb : ∀ a, a < n → ((netOf n ml E).bal g a = 0 ∨ a = s ∨ a = t)
      · obtain rfl : v = true := hvv.2 ⟨rfl, hr, hb⟩
        exact isFlow_bal n s t ml c cl n true A L E g w h hv hL hr (Nat.le_refl _) hb (Or.inl ⟨rfl, rfl⟩)
      · obtain rfl : v = false := by cases v with | false => rfl | true => exact absurd (hvv.1 rfl).2.2 hb
        obtain ⟨J, h1, h2, h3⟩ := first_not (p := fun a => ((netOf n ml E).bal g a = 0 ∨ a = s ∨ a = t)) hb
        exact isFlow_bal n s t ml c cl J false A L E g w h hv hL hr (Nat.le_of_lt h1) h3 (Or.inr ⟨rfl, h1, fun e => h2 (Or.inl e), fun e => h2 (Or.inr (Or.inl e)), fun e => h2 (Or.inr (Or.inr e))⟩)
    · obtain rfl : v = false := by cases v with | false => rfl | true => exact absurd (hvv.1 rfl).2.1 hr
      obtain ⟨J, h1, h2, h3⟩ := first_not (p := fun i => 0 ≤ g i ∧ g i ≤ (E i).c) hr
      exact isFlow_rng n s t ml c cl J A L E g w h hv hL h1 h3 h2
  · obtain rfl : v = false := by cases v with | false => rfl | true => exact absurd (hvv.1 rfl).1 hl
    exact isFlow_len n s t m ml c cl A L w hl
theorem refFlow_any (n s t m ml c cl : Nat) (v : Bool) (A L : Option Addr) (E : Nat → EdgeD) (g : Nat → Int) (w : World) (h : Edges w A m E) (hv : VNet n m E) (hL : Ints w L ml g) (hvv : v = true ↔ FlowP n m ml s t E g) :
    Calls Try.prog 18 #[.agg #[.int .i64 n, .slice A m c], .int .i64 s, .int .i64 t, .slice L ml cl] w fun e w' => e = .returned (.bool v) ∧ Below w.heap.size w w' := by
  by_cases hl : ml = m
  · subst hl
    by_cases hr : ∀ i, i < ml → 0 ≤ g i ∧ g i ≤ (E i).c
    · by_cases hb : ∀ a, a < n → ((netOf n ml E).bal g a = 0 ∨ a = s ∨ a = t)
      · obtain rfl : v = true := hvv.2 ⟨rfl, hr, hb⟩
        exact refFlow_bal n s t ml c cl n true A L E g w h hv hL hr (Nat.le_refl _) hb (Or.inl ⟨rfl, rfl⟩)
      · obtain rfl : v = false := by cases v with | false => rfl | true => exact absurd (hvv.1 rfl).2.2 hb
        obtain ⟨J, h1, h2, h3⟩ := first_not (p := fun a => ((netOf n ml E).bal g a = 0 ∨ a = s ∨ a = t)) hb
        exact refFlow_bal n s t ml c cl J false A L E g w h hv hL hr (Nat.le_of_lt h1) h3 (Or.inr ⟨rfl, h1, fun e => h2 (Or.inl e), fun e => h2 (Or.inr (Or.inl e)), fun e => h2 (Or.inr (Or.inr e))⟩)
    · obtain rfl : v = false := by cases v with | false => rfl | true => exact absurd (hvv.1 rfl).2.1 hr
      obtain ⟨J, h1, h2, h3⟩ := first_not (p := fun i => 0 ≤ g i ∧ g i ≤ (E i).c) hr
      exact refFlow_rng n s t ml c cl J A L E g w h hv hL h1 h3 h2
  · obtain rfl : v = false := by cases v with | false => rfl | true => exact absurd (hvv.1 rfl).1 hl
    exact refFlow_len n s t m ml c cl A L w hl
theorem no_iff {p : Prop} (h : ¬ p) : false = true ↔ p := ⟨fun e => (by cases e), fun e => absurd e h⟩
theorem yes_iff {p : Prop} (h : p) : true = true ↔ p := ⟨fun _ => h, fun _ => rfl⟩
abbrev chkArgs (N s t Ns : Int) (m c ml cl lb cb : Nat) (A L B : Option Addr) : Array Value := #[.agg #[.int .i64 N, .slice A m c], .int .i64 s, .int .i64 t, .slice L ml cl, .agg #[.int .i64 Ns, .slice B lb cb]]
theorem checks_same (N s t Ns : Int) (m c ml cl lb cb : Nat) (A L B : Option Addr) (E : Nat → EdgeD) (g : Nat → Int) (f : Nat → Nat) (w : World) (h : Edges w A m E) (hL : Ints w L ml g) (hB : Wds w B lb f) :
    ∃ v : Bool, (∀ u, Below w.heap.size w u → Calls Try.prog 14 (chkArgs N s t Ns m c ml cl lb cb A L B) u fun e w' => e = .returned (.bool v) ∧ Below u.heap.size u w') ∧
      (∀ u, Below w.heap.size w u → Calls Try.prog 15 (chkArgs N s t Ns m c ml cl lb cb A L B) u fun e w' => e = .returned (.bool v) ∧ Below u.heap.size u w') := by
  by_cases hv : VNet N m E
  · have R1 := fun x (hx : Below w.heap.size w x) => refValid_y N A m c E x (h.below hx) hv
    by_cases hp : Pair N s t
    · have A1 := fun x (hx : Below w.heap.size w x) => argErr_ok N s t A m c E x (h.below hx) hv hp
      have R2 := fun x (_ : Below w.heap.size w x) => ends_any N s t A m c true x (yes_iff hp)
      obtain ⟨n, rfl⟩ := Int.eq_ofNat_of_zero_le (show 0 ≤ N by have := hv.1; omega)
      obtain ⟨s, rfl⟩ := Int.eq_ofNat_of_zero_le hp.2.1.1
      obtain ⟨t, rfl⟩ := Int.eq_ofNat_of_zero_le hp.2.2.1
      have hs : s < n := by have := hp.2.1.2; omega
      have ht : t < n := by have := hp.2.2.2; omega
      have hn : n ≤ 512 := by have := hv.2.1; omega
      by_cases hf : FlowP n m ml s t E g
      · have A2 := fun x (hx : Below w.heap.size w x) => isFlow_any n s t m ml c cl true A L E g x (h.below hx) hv (hL.below hx) (yes_iff hf)
        have R3 := fun x (hx : Below w.heap.size w x) => refFlow_any n s t m ml c cl true A L E g x (h.below hx) hv (hL.below hx) (yes_iff hf)
        by_cases hN : Ns = n
        · subst hN
          have hq : ((n : Int) != (n : Int)) = false := by simp
          by_cases hV : Vld (n : Int) lb f
          · have hlb : lb = (n + 63) / 64 := hV.2.2.1
            have R4 := fun x (hx : Below w.heap.size w x) => formed_any n B lb cb f true x (hB.below hx) hn (yes_iff hV)
            cases h1 : bt f s with
            | false =>
              have A3 := fun x (hx : Below w.heap.size w x) => has_in n s B lb cb f false x (hB.below hx) hV hs h1
              have R5 := fun x (hx : Below w.heap.size w x) => refHas_any n n s B lb cb f false x (hB.below hx) hlb hn hs h1
              exact ⟨false, fun u hu => fck5 n s t n m c ml cl lb cb A L B hq u (Lib.hid fun x hx => A1 x (below_next hu hx)) (Lib.hid fun x hx => A2 x (below_next hu hx)) (Lib.hid fun x hx => A3 x (below_next hu hx)), fun u hu => rck6 n s t n m c ml cl lb cb A L B u (Lib.hid fun x hx => R1 x (below_next hu hx)) (Lib.hid fun x hx => R2 x (below_next hu hx)) (Lib.hid fun x hx => R3 x (below_next hu hx)) (Lib.hid fun x hx => R4 x (below_next hu hx)) (Lib.hid fun x hx => R5 x (below_next hu hx))⟩
            | true =>
              have A3 := fun x (hx : Below w.heap.size w x) => has_in n s B lb cb f true x (hB.below hx) hV hs h1
              have R5 := fun x (hx : Below w.heap.size w x) => refHas_any n n s B lb cb f true x (hB.below hx) hlb hn hs h1
              cases h2 : bt f t with
              | true =>
                have A4 := fun x (hx : Below w.heap.size w x) => has_in n t B lb cb f true x (hB.below hx) hV ht h2
                have R6 := fun x (hx : Below w.heap.size w x) => refHas_any n n t B lb cb f true x (hB.below hx) hlb hn ht h2
                exact ⟨false, fun u hu => fck7 n s t n m c ml cl lb cb A L B hq u (Lib.hid fun x hx => A1 x (below_next hu hx)) (Lib.hid fun x hx => A2 x (below_next hu hx)) (Lib.hid fun x hx => A3 x (below_next hu hx)) (Lib.hid fun x hx => A4 x (below_next hu hx)), fun u hu => rck7 n s t n m c ml cl lb cb A L B u (Lib.hid fun x hx => R1 x (below_next hu hx)) (Lib.hid fun x hx => R2 x (below_next hu hx)) (Lib.hid fun x hx => R3 x (below_next hu hx)) (Lib.hid fun x hx => R4 x (below_next hu hx)) (Lib.hid fun x hx => R5 x (below_next hu hx)) (Lib.hid fun x hx => R6 x (below_next hu hx))⟩
              | false =>
                have A4 := fun x (hx : Below w.heap.size w x) => has_in n t B lb cb f false x (hB.below hx) hV ht h2
                have R6 := fun x (hx : Below w.heap.size w x) => refHas_any n n t B lb cb f false x (hB.below hx) hlb hn ht h2
                obtain ⟨rfl, hg, _⟩ := hf
                have hg2 : ∀ i, i < ml → 0 ≤ g i ∧ g i ≤ 1125899906842624 := fun i hi => ⟨(hg i hi).1, Int.le_trans (hg i hi).2 (net_c hv hi)⟩
                have A5 := fun x (hx : Below w.heap.size w x) => value_any n ml c cl s A L E g x (h.below hx) hv (hL.below hx) hg2 hs
                have A6 := fun x (hx : Below w.heap.size w x) => capacity_any n ml c A E B lb cb f x (h.below hx) hv (hB.below hx) hV
                have R7 := fun x (hx : Below w.heap.size w x) => refValue_any n ml c cl s A L E g x (h.below hx) hv (hL.below hx) hg2
                have R8 := fun x (hx : Below w.heap.size w x) => refCap_any n ml c A E B lb cb f x (h.below hx) hv (hB.below hx) hlb
                exact ⟨_, fun u hu => fck8 n s t n ml c ml cl lb cb A L B hq _ _ u (Lib.hid fun x hx => A1 x (below_next hu hx)) (Lib.hid fun x hx => A2 x (below_next hu hx)) (Lib.hid fun x hx => A3 x (below_next hu hx)) (Lib.hid fun x hx => A4 x (below_next hu hx)) (Lib.hid fun x hx => A5 x (below_next hu hx)) (Lib.hid fun x hx => A6 x (below_next hu hx)), fun u hu => rck8 n s t n ml c ml cl lb cb A L B _ _ u (Lib.hid fun x hx => R1 x (below_next hu hx)) (Lib.hid fun x hx => R2 x (below_next hu hx)) (Lib.hid fun x hx => R3 x (below_next hu hx)) (Lib.hid fun x hx => R4 x (below_next hu hx)) (Lib.hid fun x hx => R5 x (below_next hu hx)) (Lib.hid fun x hx => R6 x (below_next hu hx)) (Lib.hid fun x hx => R7 x (below_next hu hx)) (Lib.hid fun x hx => R8 x (below_next hu hx))⟩
          · have A3 := fun x (hx : Below w.heap.size w x) => has_out n s B lb cb f x (hB.below hx) (fun hh => hV hh.1)
            have R4 := fun x (hx : Below w.heap.size w x) => formed_any n B lb cb f false x (hB.below hx) hn (no_iff hV)
            exact ⟨false, fun u hu => fck5 n s t n m c ml cl lb cb A L B hq u (Lib.hid fun x hx => A1 x (below_next hu hx)) (Lib.hid fun x hx => A2 x (below_next hu hx)) (Lib.hid fun x hx => A3 x (below_next hu hx)), fun u hu => rck4 n s t n m c ml cl lb cb A L B u (Lib.hid fun x hx => R1 x (below_next hu hx)) (Lib.hid fun x hx => R2 x (below_next hu hx)) (Lib.hid fun x hx => R3 x (below_next hu hx)) (Lib.hid fun x hx => R4 x (below_next hu hx))⟩
        · have R4 := fun x (_ : Below w.heap.size w x) => formed_n Ns n B lb cb x hN
          exact ⟨false, fun u hu => fck4 n s t Ns m c ml cl lb cb A L B (bne_iff_ne.2 hN) u (Lib.hid fun x hx => A1 x (below_next hu hx)) (Lib.hid fun x hx => A2 x (below_next hu hx)), fun u hu => rck4 n s t Ns m c ml cl lb cb A L B u (Lib.hid fun x hx => R1 x (below_next hu hx)) (Lib.hid fun x hx => R2 x (below_next hu hx)) (Lib.hid fun x hx => R3 x (below_next hu hx)) (Lib.hid fun x hx => R4 x (below_next hu hx))⟩
      · have A2 := fun x (hx : Below w.heap.size w x) => isFlow_any n s t m ml c cl false A L E g x (h.below hx) hv (hL.below hx) (no_iff hf)
        have R3 := fun x (hx : Below w.heap.size w x) => refFlow_any n s t m ml c cl false A L E g x (h.below hx) hv (hL.below hx) (no_iff hf)
        exact ⟨false, fun u hu => fck3 n s t Ns m c ml cl lb cb A L B u (Lib.hid fun x hx => A1 x (below_next hu hx)) (Lib.hid fun x hx => A2 x (below_next hu hx)), fun u hu => rck3 n s t Ns m c ml cl lb cb A L B u (Lib.hid fun x hx => R1 x (below_next hu hx)) (Lib.hid fun x hx => R2 x (below_next hu hx)) (Lib.hid fun x hx => R3 x (below_next hu hx))⟩
    · have A1 := fun x (hx : Below w.heap.size w x) => argErr_range N s t A m c E x (h.below hx) hv hp
      have R2 := fun x (_ : Below w.heap.size w x) => ends_any N s t A m c false x (no_iff hp)
      exact ⟨false, fun u hu => fck2 N s t Ns m c ml cl lb cb A L B u (Lib.hid fun x hx => A1 x (below_next hu hx)), fun u hu => rck2 N s t Ns m c ml cl lb cb A L B u (Lib.hid fun x hx => R1 x (below_next hu hx)) (Lib.hid fun x hx => R2 x (below_next hu hx))⟩
  · have A1 := fun x (hx : Below w.heap.size w x) => argErr_arg N s t A m c E x (h.below hx) hv
    have R1 := fun x (hx : Below w.heap.size w x) => refValid_n N A m c E x (h.below hx) hv
    exact ⟨false, fun u hu => fck1 N s t Ns m c ml cl lb cb A L B u (Lib.hid fun x hx => A1 x (below_next hu hx)), fun u hu => rck1 N s t Ns m c ml cl lb cb A L B u (Lib.hid fun x hx => R1 x (below_next hu hx))⟩
end Go.Proofs.Ytjdceafkcakbjaa
