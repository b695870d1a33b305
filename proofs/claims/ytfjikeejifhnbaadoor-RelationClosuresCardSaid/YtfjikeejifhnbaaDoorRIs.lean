/- The laws' own is: a result is a relation with given pairs, or an error without one. -/
import Derived.Test.YtfjikeejifhnbaaDoorRFrom
import Derived.Test.YtfjikeejifhnbaaDoorRTre
import Derived.Test.YtfjikeejifhnbaaDoorLLea0
namespace Go.Proofs.YtfjikeejifhnbaaDoor
open Go.RowKit
theorem is_err (er : Int) (v : Value) (w : World) (he : er ≠ 0) :
    Calls Tryd.prog 23 #[.agg #[.slice none 0 0], .int .i64 er, .int .i64 er, v] w fun e w' => e = .returned (.bool true) ∧ Below w.heap.size w w' := by
  have h1 : (er == 0) = false := beq_false_of_ne he
  have h2 : (er != 0) = true := by simp only [bne, h1]; rfl
  have h3 : (er == er) = true := by simp
  have b0 : Below w.heap.size w (w.alloc (.cells #[.slice none 0 0] 24)) := (Below.refl _ _).alloc (Nat.le_refl _) _
  have c0 := (relAt_new w none 0 0).c0
  clear he
  go_enter Tryd.func23, Tryd.ntmps23
  go_wp2_with fail
  go_ret
  exact ⟨rfl, b0⟩
theorem is_ok (A : Option Addr) (n c : Nat) (R : Nat → RowD) (v : Value) (B C : Nat → Nat) (T : Nat → Nat → Bool) (w : World) (h : Rel w A n R) (hv : VRel n R) (hb : BTab w 0 v n n B C T) (hm : ∀ i, i < n → ∀ j, j < n → mat R i j = T i j) :
    Calls Tryd.prog 23 #[.agg #[.slice A n c], .int .i64 0, .int .i64 0, v] w fun e w' => e = .returned (.bool true) ∧ Below w.heap.size w w' := by
  have b0 : Below w.heap.size w (w.alloc (.cells #[.slice A n c] 24)) := (Below.refl _ _).alloc (Nat.le_refl _) _
  have r0 := relAt_new w A n c
  have hn := hv.1
  have HH : Hid (Rel (w.alloc (.cells #[.slice A n c] 24)) A n R) := h.below b0
  have HB : Hid (BTab (w.alloc (.cells #[.slice A n c] 24)) 0 v n n B C T) := hb.below b0
  clear h hb
  go_enter Tryd.func23, Tryd.ntmps23
  go_wp2_with fail
  generalize hP : w.heap.size = p at *
  have HP := Lib.hid hP
  clear hP
  generalize w.alloc (.cells #[.slice A n c] 24) = W at *
  have hfr : Hid (∀ u, Below W.heap.size W u → Calls Tryd.prog 44 #[v] u (FromOk u n T)) := fun u hu => from_any v n B C T u (HB.out.below hu) hn
  have hsm : Hid (∀ u A5 c5 R5, Below W.heap.size W u → Rel u A5 n R5 → VRel n R5 → (∀ i, i < n → ∀ j, j < n → mat R5 i j = T i j) → Calls Tryd.prog 13 #[.agg #[.slice A n c], .agg #[.slice A5 n c5]] u fun e w' => e = .returned (.bool true) ∧ Below u.heap.size u w') := fun u A5 c5 R5 hu h5 hv5 hm5 =>
    same_yes A A5 n c c5 R R5 u (HH.out.below hu) h5 hv hv5 (fun i hi j hj => (hm i hi j hj).trans (hm5 i hi j hj).symm)
  have hss : Hid (∀ w', Below W.heap.size W w' → Below W.heap.size W w' ∧ w'.cell? ⟨p, 0, none⟩ = some (.slice A n c)) := fun w' b => ⟨b, (r0.below b).c0⟩
  go_region_held3 (fun w' => Below W.heap.size W w' ∧ w'.cell? ⟨p, 0, none⟩ = some (.slice A n c))
    (first
      | exact hss.out _ (Below.refl _ _).drew
      | exact hss.out _ bc6
      | exact hss.out _ bc5)
    (first
      | (go_at_call 44; (with_reducible refine (hfr.out _ (And.left (by assumption))).mono ?_); rintro e w5 ⟨A5, c5, R5, rfl, hr5, hv5, hm5, b5⟩; have bc5 := below_next (And.left (by assumption)) b5)
      | (go_at_call 13; (with_reducible refine (hsm.out _ _ _ _ bc5 hr5 hv5 hm5).mono ?_); rintro e w6 ⟨rfl, b6⟩; have bc6 := below_next bc5 b6))
  all_goals
    go_wp2_with fail
    go_ret
    exact ⟨rfl, by rw [HP.out]; exact b0.trans (bc6.mono (Nat.le_of_lt r0.lt))⟩
/- a box of nothing -/
structure NilB (w : World) (p : Nat) : Prop where
  a : RelAt w p none 0 0
theorem NilB.next {w w' : World} {p : Nat} (h : NilB w p) (b : Below w.heap.size w w') : NilB w' p := ⟨h.a.below b⟩
theorem NilB.nxt {w w' : World} {p : Nat} (h : NilB w p) (b : Below w.heap.size w w') (o : Obj) : NilB (w'.alloc o) p := ⟨(h.a.below b).alloc o⟩
theorem compose_bad {w : World} {A B : Option Addr} {n m ca cb : Nat} {R S : Nat → RowD} (h : Rel w A n R) (h2 : Rel w B m S) (hn : n ≤ 1000000) (hb : ¬ (VRel n R ∧ VRel m S ∧ n = m)) :
    Calls Tryd.prog 22 #[.agg #[.slice A n ca], .agg #[.slice B m cb]] w (RelErr w 1) := by
  by_cases e : n = m
  · subst e
    by_cases hv : VRel n R
    · exact compose_vb A B n ca cb R S w h h2 hn hv (fun hs => hb ⟨hv, hs, rfl⟩)
    · exact compose_va A B n ca cb R w h hn hv
  · exact compose_len A B n m ca cb w e
theorem BTab.closed {w : World} {v : Value} {n : Nat} {B C : Nat → Nat} {T : Nat → Nat → Bool} (h : BTab w 0 v n n B C T) (hn : n ≤ 512) : Calls Tryd.prog 25 #[v] w (TabOk w n (clo n T)) := refClosure_any v n B C T w h hn
end Go.Proofs.YtfjikeejifhnbaaDoor
