/- What the laws over three sets share. -/
import Derived.Test.YtijghglppgihmaaDoorLawOrd
namespace Go.Proofs.YtijghglppgihmaaDoor
open Go.RowKit Go.Sort
def pick3 {α : Type} (x y z : α) : Nat → α := fun k => if k = 0 then x else if k = 1 then y else z
theorem sets_three (w : World) (N M K : Int) (A B C : Option Addr) (la ca lb cb lc cc : Nat) :
    Sets (w.alloc (.cells #[.int .i64 N, .slice A la ca, .int .i64 M, .slice B lb cb, .int .i64 K, .slice C lc cc] 24)) w.heap.size 3 (pick3 N M K) (pick3 A B C) (pick3 la lb lc) (pick3 ca cb cc) := by
  refine ⟨by simp, fun k hk => ?_⟩
  have h := fun i => cell_of_row (w.alloc (.cells #[.int .i64 N, .slice A la ca, .int .i64 M, .slice B lb cb, .int .i64 K, .slice C lc cc] 24)) w.heap.size i _ _ _ (heap_alloc_new w _)
  rw [h, h]
  match k, hk with
  | 0, _ => exact ⟨rfl, rfl⟩
  | 1, _ => exact ⟨rfl, rfl⟩
  | 2, _ => exact ⟨rfl, rfl⟩
/- three boxed sets -/
structure Tri (w wr : World) (N M K : Int) (A B C : Option Addr) (la ca lb cb lc cc : Nat) : Prop where
  s : SetAt wr w.heap.size N A la ca
  t : SetAt wr (w.heap.size + 1) M B lb cb
  u : SetAt wr (w.heap.size + 2) K C lc cc
  b : Below w.heap.size w wr
theorem tri_new (w : World) (N M K : Int) (A B C : Option Addr) (la ca lb cb lc cc : Nat) :
    Tri w (((w.alloc (.cells #[.int .i64 N, .slice A la ca] 24)).alloc (.cells #[.int .i64 M, .slice B lb cb] 24)).alloc (.cells #[.int .i64 K, .slice C lc cc] 24)) N M K A B C la ca lb cb lc cc := by
  have h := two_new w N M A B la ca lb cb
  refine ⟨h.s.alloc _, h.t.alloc _, ?_, h.b.alloc h.b.size _⟩
  have hu := setAt_new ((w.alloc (.cells #[.int .i64 N, .slice A la ca] 24)).alloc (.cells #[.int .i64 M, .slice B lb cb] 24)) K C lc cc
  have e : ((w.alloc (.cells #[.int .i64 N, .slice A la ca] 24)).alloc (.cells #[.int .i64 M, .slice B lb cb] 24)).heap.size = w.heap.size + 2 := by simp
  rw [e] at hu; exact hu
section
variable {w wr w2 : World} {N M K : Int} {A B C : Option Addr} {la ca lb cb lc cc : Nat}
theorem Tri.next (h : Tri w wr N M K A B C la ca lb cb lc cc) (k : Below wr.heap.size wr w2) : Tri w w2 N M K A B C la ca lb cb lc cc := ⟨h.s.below k, h.t.below k, h.u.below k, below_next h.b k⟩
theorem Tri.alloc (h : Tri w wr N M K A B C la ca lb cb lc cc) (o : Obj) : Tri w (wr.alloc o) N M K A B C la ca lb cb lc cc := h.next ((Below.refl _ _).alloc (Nat.le_refl _) o)
end
/- Same, at two sets with the same N and equally many words -/
theorem same_of (N : Int) (m : Nat) (f g : Nat → Nat) (v : Bool) (hm : m ≤ 1000) (hv : v = true ↔ ∀ k, k < m → f k = g k) :
    ∀ (A B : Option Addr) (ca cb : Nat) (w : World), Wds w A m f → Wds w B m g → Calls Tryd.prog 18 #[.agg #[.int .i64 N, .slice A m ca], .agg #[.int .i64 N, .slice B m cb]] w fun e w' => e = .returned (.bool v) ∧ Below w.heap.size w w' := by
  intro A B ca cb w h1 h2
  rcases first_of (fun k => !decide (f k = g k)) m with h | ⟨J, q1, q2, q3⟩
  · have hz : ∀ k, k < m → f k = g k := fun k hk => by simpa using h k hk
    rw [hv.2 hz]
    exact refSame_any N A B m ca cb f g m true w h1 h2 hm (Nat.le_refl _) hz (Or.inl ⟨rfl, rfl⟩)
  · have hne : f J ≠ g J := by simpa using q2
    have hvf : v = false := by
      cases v
      · rfl
      · exact absurd (hv.1 rfl J q1) hne
    rw [hvf]
    exact refSame_any N A B m ca cb f g J false w h1 h2 hm (Nat.le_of_lt q1) (fun k hk => by simpa using q3 k hk) (Or.inr ⟨rfl, q1, hne⟩)
theorem sub_or (f g : Nat → Nat) (m : Nat) : Sub f (comb orW f g) m := fun i _ h => by rw [bt_or, h]; rfl
theorem or_same {f g : Nat → Nat} {m : Nat} (hf : U64 f m) (hg : U64 g m) : (∀ k, k < m → comb orW f g k = g k) ↔ Sub f g m := by
  constructor
  · intro h i hi hb
    have := bt_congr h i hi
    rw [bt_or, hb, Bool.true_or] at this
    exact this.symm
  · intro h
    refine bt_ext (u64_or hf hg) hg fun i hi => ?_
    rw [bt_or]
    cases hb : bt f i
    · rfl
    · rw [h i hi hb]; rfl
theorem words_dist (f g h : Nat → Nat) (k : Nat) : comb andW f (comb orW g h) k = comb orW (comb andW f g) (comb andW f h) k := by
  show f k &&& (g k ||| h k) = (f k &&& g k) ||| (f k &&& h k)
  exact Nat.and_or_distrib_left _ _ _
theorem words_morgan {f g h : Nat → Nat} {m : Nat} (hf : U64 f m) (hg : U64 g m) (hh : U64 h m) : ∀ k, k < m → comb andNot f (comb orW g h) k = comb andW (comb andNot f g) (comb andNot f h) k :=
  bt_ext (u64_not hf) (u64_and' (u64_not hf)) fun i hi => by
    rw [bt_not f _ m i (u64_or hg hh) hi, bt_and, bt_not f g m i hg hi, bt_not f h m i hh hi, bt_or]
    cases bt f i <;> cases bt g i <;> cases bt h i <;> rfl
theorem subset_lit (N : Nat) (A B : Option Addr) (m ca cb : Nat) (f g : Nat → Nat) (v : Bool) (hs : v = true ↔ Sub f g m) (hu : U64 f m) (hv : U64 g m) (va : Vld N m f) (vb : Vld N m g) :
    ∀ w : World, Wds w A m f → Wds w B m g → Calls Tryd.prog 40 #[.agg #[.int .i64 N, .slice A m ca], .agg #[.int .i64 N, .slice B m cb]] w fun e w' => e = .returned (.bool v) ∧ Below w.heap.size w w' := by
  obtain ⟨v', e', c'⟩ := subset_dec N A B m ca cb f g hu hv va vb
  have : v' = v := Bool.eq_iff_iff.2 (e'.trans hs.symm)
  rw [← this]; exact c'
end Go.Proofs.YtijghglppgihmaaDoor
