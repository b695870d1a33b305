/- NumberRing: the law's own text, walked: it returns true for every three integers. -/
import Derived.Test.YtcgmbgamhlfpcaaDoorSumsWalk
import Derived.OneCell
namespace Go.Proofs.YtcgmbgamhlfpcaaDoor
open Go.RowKit
def Num (n : Int) : Prop := -1125899906842624 ≤ n ∧ n ≤ 1125899906842624
theorem add_cases (a b : Int) (w : World) : Calls Tryd.prog 11 #[.int .i64 a, .int .i64 b] w fun e w' => ∃ z k : Int, e = .returned (.tuple #[.int .i64 z, .int .i64 k]) ∧ w = w' ∧ Hid ((k == 0) = true → Num a ∧ Num b ∧ Num (a + b) ∧ z = a + b) ∧ Num z := by
  by_cases h : Num a ∧ Num b
  · by_cases hs : Num (a + b)
    · exact (add_ok a b w h.1 h.2 hs).mono fun e w' ⟨he, hw⟩ => ⟨_, _, he, hw, fun _ => ⟨h.1, h.2, hs, rfl⟩, hs⟩
    · exact (add_big a b w h.1 h.2 (by unfold Num at hs; omega)).mono fun e w' ⟨he, hw⟩ => ⟨_, _, he, hw, fun hk => by exact absurd hk (by decide), by unfold Num; omega⟩
  · exact (add_range a b w (by unfold Num at h; omega)).mono fun e w' ⟨he, hw⟩ => ⟨_, _, he, hw, fun hk => by exact absurd hk (by decide), by unfold Num; omega⟩
theorem num_mul {a b : Int} (h : Fits a b) : Num (a * b) := by
  rcases h with rfl | h
  · rw [Int.zero_mul]; unfold Num; omega
  · by_cases h0 : a = 0
    · subst h0; rw [Int.zero_mul]; unfold Num; omega
    · exact mul_bound h0 h
theorem mul_cases (a b : Int) (w : World) : Calls Tryd.prog 12 #[.int .i64 a, .int .i64 b] w fun e w' => ∃ z k : Int, e = .returned (.tuple #[.int .i64 z, .int .i64 k]) ∧ w = w' ∧ Hid ((k == 0) = true → Num a ∧ Num b ∧ Num (a * b) ∧ z = a * b) ∧ Num z := by
  by_cases h : Num a ∧ Num b
  · by_cases hs : Fits a b
    · exact (mul_fit a b w h.1 h.2 hs).mono fun e w' ⟨he, hw⟩ => ⟨_, _, he, hw, fun _ => ⟨h.1, h.2, num_mul hs, rfl⟩, num_mul hs⟩
    · exact (mul_over a b w h.1 h.2 hs).mono fun e w' ⟨he, hw⟩ => ⟨_, _, he, hw, fun hk => by exact absurd hk (by decide), by unfold Num; omega⟩
  · exact (mul_range a b w (by unfold Num at h; omega)).mono fun e w' ⟨he, hw⟩ => ⟨_, _, he, hw, fun hk => by exact absurd hk (by decide), by unfold Num; omega⟩
def AddR (a b : Int) (o o' : Bool) (z : Int) : Prop := (o' = true → o = true ∧ Num a ∧ Num b ∧ Num (a + b) ∧ z = a + b) ∧ Num z
theorem clo_add (a b : Int) (B : Nat) (o : Bool) (w : World) (h : w.heap[B]? = some (.cells #[.bool o] 4 (0, 0))) :
    Calls Tryd.prog 27 #[.int .i64 a, .int .i64 b, .pointer (some ⟨B, 0, none⟩)] w fun e w' => ∃ (z : Int) (o' : Bool), e = .returned (.int .i64 z) ∧ w.setCell ⟨B, 0, none⟩ (.bool o') = w' ∧ Hid (AddR a b o o' z) := by
  have hc := cell_of_one h
  have hf := free_of_one h
  clear h
  cases o
  all_goals
    go_enter Tryd.func27, Tryd.ntmps27
    go_wp2_with fail
    refine (add_cases _ _ _).mono ?_; rintro e w' ⟨z, k, rfl, rfl, hz, hn⟩
    go_wp2
    go_ret
  · exact ⟨_, _, rfl, rfl, (⟨fun h => (by cases h), hn⟩ : _ ∧ _)⟩
  · exact ⟨_, _, rfl, rfl, (⟨fun h => ⟨rfl, hz.out h⟩, hn⟩ : _ ∧ _)⟩
/- the same, said of the world behind -/
theorem own_add (a b : Int) (B : Nat) (o : Bool) (w : World) (h : Hid (w.heap[B]? = some (.cells #[.bool o] 4 (0, 0)))) :
    Calls Tryd.prog 27 #[.int .i64 a, .int .i64 b, .pointer (some ⟨B, 0, none⟩)] w fun e w' => ∃ (z : Int) (o' : Bool), e = .returned (.int .i64 z) ∧ Hid (w'.heap[B]? = some (.cells #[.bool o'] 4 (0, 0))) ∧ Below B w w' ∧ Hid (AddR a b o o' z) :=
  (clo_add a b B o w h.out).mono fun e w' ⟨z, o', he, hw, hr⟩ => ⟨z, o', he, by rw [← hw]; exact one_setCell h.out, by rw [← hw]; exact Below.setCell (Below.refl B w) (Nat.le_refl B) _, hr⟩
def MulR (a b : Int) (o o' : Bool) (z : Int) : Prop := (o' = true → o = true ∧ Num a ∧ Num b ∧ Num (a * b) ∧ z = a * b) ∧ Num z
theorem clo_mul (a b : Int) (B : Nat) (o : Bool) (w : World) (h : w.heap[B]? = some (.cells #[.bool o] 4 (0, 0))) :
    Calls Tryd.prog 28 #[.int .i64 a, .int .i64 b, .pointer (some ⟨B, 0, none⟩)] w fun e w' => ∃ (z : Int) (o' : Bool), e = .returned (.int .i64 z) ∧ w.setCell ⟨B, 0, none⟩ (.bool o') = w' ∧ Hid (MulR a b o o' z) := by
  have hc := cell_of_one h
  have hf := free_of_one h
  clear h
  cases o
  all_goals
    go_enter Tryd.func28, Tryd.ntmps28
    go_wp2_with fail
    refine (mul_cases _ _ _).mono ?_; rintro e w' ⟨z, k, rfl, rfl, hz, hn⟩
    go_wp2
    go_ret
  · exact ⟨_, _, rfl, rfl, (⟨fun h => (by cases h), hn⟩ : _ ∧ _)⟩
  · exact ⟨_, _, rfl, rfl, (⟨fun h => ⟨rfl, hz.out h⟩, hn⟩ : _ ∧ _)⟩
/- the same, said of the world behind -/
theorem own_mul (a b : Int) (B : Nat) (o : Bool) (w : World) (h : Hid (w.heap[B]? = some (.cells #[.bool o] 4 (0, 0)))) :
    Calls Tryd.prog 28 #[.int .i64 a, .int .i64 b, .pointer (some ⟨B, 0, none⟩)] w fun e w' => ∃ (z : Int) (o' : Bool), e = .returned (.int .i64 z) ∧ Hid (w'.heap[B]? = some (.cells #[.bool o'] 4 (0, 0))) ∧ Below B w w' ∧ Hid (MulR a b o o' z) :=
  (clo_mul a b B o w h.out).mono fun e w' ⟨z, o', he, hw, hr⟩ => ⟨z, o', he, by rw [← hw]; exact one_setCell h.out, by rw [← hw]; exact Below.setCell (Below.refl B w) (Nat.le_refl B) _, hr⟩
end Go.Proofs.YtcgmbgamhlfpcaaDoor
