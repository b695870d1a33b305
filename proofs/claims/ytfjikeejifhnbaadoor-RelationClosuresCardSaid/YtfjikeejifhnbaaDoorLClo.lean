/- RelationClosures: the law's own text, walked: it returns true for every two relations. -/
import Derived.Test.YtfjikeejifhnbaaDoorLClo1
import Derived.Test.YtfjikeejifhnbaaDoorLClo2
import Derived.Test.YtfjikeejifhnbaaDoorLClo3
namespace Go.Proofs.YtfjikeejifhnbaaDoor
open Go.RowKit
theorem clo_law (x y : RelD) (w : World) (hx : Rel w x.A x.n x.R) (hy : Rel w y.A y.n y.R) (hT : Tab w) :
    Calls Tryd.prog 4 #[.agg #[.slice x.A x.n x.c], .agg #[.slice y.A y.n y.c]] w fun e w' => e = .returned (.bool true) ∧ Below w.heap.size w w' := by
  obtain ⟨A, n, ca, R⟩ := x
  obtain ⟨B, m, cb, S⟩ := y
  by_cases hg : ∃ k, k < 2 ∧ Great (pk2 ⟨A, n, ca, R⟩ ⟨B, m, cb, S⟩ k).n (pk2 ⟨A, n, ca, R⟩ ⟨B, m, cb, S⟩ k).R
  · exact clo_big A B n m ca cb R S w hx hy hT hg
  have hng : ∀ k, k < 2 → ¬ Great (pk2 ⟨A, n, ca, R⟩ ⟨B, m, cb, S⟩ k).n (pk2 ⟨A, n, ca, R⟩ ⟨B, m, cb, S⟩ k).R := fun k hk h => hg ⟨k, hk, h⟩
  by_cases vx : VRel n R
  · have ho : (orderOf n (mat R)).isSome = true ∨ orderOf n (mat R) = none := by
      cases orderOf n (mat R)
      · exact Or.inr rfl
      · exact Or.inl rfl
    by_cases vy : VRel m S
    · by_cases hne : n = m
      · subst hne
        rcases ho with ho | ho
        · exact clo_ok_acy A B n ca cb R S w hx hy hT hng vx vy ho
        · exact clo_ok_cyc A B n ca cb R S w hx hy hT hng vx vy ho
      · rcases ho with ho | ho
        · exact clo_bl_acy A B n m ca cb R S w hx hy hT hng vx vy hne ho
        · exact clo_bl_cyc A B n m ca cb R S w hx hy hT hng vx vy hne ho
    · rcases ho with ho | ho
      · exact clo_bv_acy A B n m ca cb R S w hx hy hT hng vx vy ho
      · exact clo_bv_cyc A B n m ca cb R S w hx hy hT hng vx vy ho
  · exact clo_nv A B n m ca cb R S w hx hy hT hng vx
end Go.Proofs.YtfjikeejifhnbaaDoor
