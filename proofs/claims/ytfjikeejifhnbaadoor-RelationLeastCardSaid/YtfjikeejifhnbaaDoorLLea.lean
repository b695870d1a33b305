/- RelationLeast: the law's own text, walked: it returns true for every two relations. -/
import Derived.Test.YtfjikeejifhnbaaDoorLLea1
import Derived.Test.YtfjikeejifhnbaaDoorLLea2
import Derived.Test.YtfjikeejifhnbaaDoorLLea3
import Derived.Test.YtfjikeejifhnbaaDoorLLea4
import Derived.Test.YtfjikeejifhnbaaDoorLLea5
namespace Go.Proofs.YtfjikeejifhnbaaDoor
open Go.RowKit
theorem lea_law (x y : RelD) (w : World) (hx : Rel w x.A x.n x.R) (hy : Rel w y.A y.n y.R) (hT : Tab w) :
    Calls Tryd.prog 6 #[.agg #[.slice x.A x.n x.c], .agg #[.slice y.A y.n y.c]] w fun e w' => e = .returned (.bool true) ∧ Below w.heap.size w w' := by
  obtain ⟨A, n, ca, R⟩ := x
  obtain ⟨B, m, cb, S⟩ := y
  by_cases hg : ∃ k, k < 2 ∧ Great (pk2 ⟨A, n, ca, R⟩ ⟨B, m, cb, S⟩ k).n (pk2 ⟨A, n, ca, R⟩ ⟨B, m, cb, S⟩ k).R
  · exact lea_big A B n m ca cb R S w hx hy hT hg
  have hng : ∀ k, k < 2 → ¬ Great (pk2 ⟨A, n, ca, R⟩ ⟨B, m, cb, S⟩ k).n (pk2 ⟨A, n, ca, R⟩ ⟨B, m, cb, S⟩ k).R := fun k hk h => hg ⟨k, hk, h⟩
  by_cases h24 : 24 < n
  · exact lea_24 A B n m ca cb R S w hx hy hT hng h24
  have h24' : n ≤ 24 := by omega
  by_cases vx : VRel n R
  · have ho : (orderOf n (mat R)).isSome = true ∨ orderOf n (mat R) = none := by
      cases orderOf n (mat R)
      · exact Or.inr rfl
      · exact Or.inl rfl
    by_cases vy : VRel m S
    · by_cases hne : m = n
      · obtain rfl : n = m := hne.symm
        by_cases hi : ∀ i, i < n → ∀ j, j < n → mat R i j = true → mat S i j = true
        · by_cases ht : ∀ i, i < n → ∀ j, j < n → comp n (mat S) (mat S) i j = true → mat S i j = true
          · rcases ho with ho | ho
            · exact lea_oc_acy A B n ca cb R S w hx hy hT hng h24' vx vy hi ht ho
            · exact lea_oc_cyc A B n ca cb R S w hx hy hT hng h24' vx vy hi ht ho
          · rcases ho with ho | ho
            · exact lea_ot_acy A B n ca cb R S w hx hy hT hng h24' vx vy hi ht ho
            · exact lea_ot_cyc A B n ca cb R S w hx hy hT hng h24' vx vy hi ht ho
        · rcases ho with ho | ho
          · exact lea_oi_acy A B n ca cb R S w hx hy hT hng h24' vx vy hi ho
          · exact lea_oi_cyc A B n ca cb R S w hx hy hT hng h24' vx vy hi ho
      · rcases ho with ho | ho
        · exact lea_ol_acy A B n m ca cb R S w hx hy hT hng h24' vx vy hne ho
        · exact lea_ol_cyc A B n m ca cb R S w hx hy hT hng h24' vx vy hne ho
    · rcases ho with ho | ho
      · exact lea_ov_acy A B n m ca cb R S w hx hy hT hng h24' vx vy ho
      · exact lea_ov_cyc A B n m ca cb R S w hx hy hT hng h24' vx vy ho
  · exact lea_nv A B n m ca cb R S w hx hy hT hng h24' vx
end Go.Proofs.YtfjikeejifhnbaaDoor
