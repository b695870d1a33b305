/- An order is an order; poset.Valid. -/
import Derived.Test.YtngpfondnampjaaDoorPVal
namespace Go.Proofs.YtngpfondnampjaaDoor
open Go.RowKit Go.Sort
theorem pvalid_any (A : Option Addr) (n c : Nat) (R : Nat → RowD) (v : Bool) (w : World) (h : Rel w A n R) (hn : n ≤ 1000000) (hT : Tab w) (hvv : v = true ↔ POrd n R) :
    Calls Tryd.prog 39 #[.agg #[.slice A n c]] w fun e w' => e = .returned (.bool v) ∧ Below w.heap.size w w' := by
  by_cases hv : VRel n R
  · exact pvalid_ok A n c R v w h hv hT (hvv.trans ⟨fun h => h.2, fun h => ⟨hv, h⟩⟩)
  · have : v = false := by
      cases hc : v with
      | false => rfl
      | true => exact absurd (hvv.1 hc).1 hv
    rw [this]
    exact pvalid_bad A n c R w h hn hv
/- an order is its own closure -/
theorem pord_trans {n : Nat} {T : Nat → Nat → Bool} (h : ∀ i, i < n → POk n T i) : Trans n T := fun i j k hi hj hk h1 h2 => (h i hi).2 j hj h1 k hk h2
theorem pord_clo {n : Nat} {T : Nat → Nat → Bool} (h : ∀ i, i < n → POk n T i) {i j : Nat} (hi : i < n) (hj : j < n) : clo n T i j = T i j :=
  bool_ext ⟨fun hc => clo_least (pord_trans h) (fun _ _ _ _ h => h) hi hj hc, fun ht => clo_base ht⟩
theorem pord_acy {n : Nat} {T : Nat → Nat → Bool} (h : ∀ i, i < n → POk n T i) : Acy n T := fun i hi => by rw [pord_clo h hi hi]; exact (h i hi).1
theorem pok_congr {n : Nat} {T S : Nat → Nat → Bool} (h : ∀ i, i < n → ∀ j, j < n → T i j = S i j) (hS : ∀ i, i < n → POk n S i) : ∀ i, i < n → POk n T i := fun i hi =>
  ⟨by rw [h i hi i hi]; exact (hS i hi).1, fun j hj h1 k hk h2 => by rw [h i hi k hk]; rw [h i hi j hj] at h1; rw [h j hj k hk] at h2; exact (hS i hi).2 j hj h1 k hk h2⟩
end Go.Proofs.YtngpfondnampjaaDoor
