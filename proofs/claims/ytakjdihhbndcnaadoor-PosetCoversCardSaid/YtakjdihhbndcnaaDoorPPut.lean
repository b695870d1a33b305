/- Rows of the call's own whose words lie each in a block of its own; the reference's put and Empty. -/
import Derived.Test.YtakjdihhbndcnaaDoorPRfV
namespace Go.Proofs.YtakjdihhbndcnaaDoor
open Go.RowKit Go.Sort
/- k sets, one behind the other, their words each in a block of its own -/
def svals (n m : Nat) (G : Nat → Nat) : Nat → List Value
  | 0 => []
  | k + 1 => svals n m G k ++ [.int .i64 (n : Nat), .slice (some ⟨G k, 0, none⟩) m m]
theorem svals_len (n m : Nat) (G : Nat → Nat) : ∀ k, (svals n m G k).length = k * 2
  | 0 => rfl
  | k + 1 => by unfold svals; rw [List.length_append, svals_len n m G k]; simp; omega
theorem svals_get (n m : Nat) (G : Nat → Nat) {i : Nat} : ∀ {k : Nat}, i < k → (svals n m G k)[i * 2]? = some (.int .i64 (n : Nat)) ∧ (svals n m G k)[i * 2 + 1]? = some (.slice (some ⟨G i, 0, none⟩) m m)
  | 0, h => absurd h (Nat.not_lt_zero _)
  | k + 1, h => by
    unfold svals
    have hl := svals_len n m G k
    by_cases e : i = k
    · subst e
      rw [List.getElem?_append_right (by omega), List.getElem?_append_right (by omega), hl, Nat.sub_self, show i * 2 + 1 - i * 2 = 1 by omega]
      exact ⟨rfl, rfl⟩
    · rw [List.getElem?_append_left (by omega), List.getElem?_append_left (by omega)]
      exact svals_get n m G (by omega)
theorem svals_congr (n m : Nat) {G H : Nat → Nat} : ∀ k, (∀ i, i < k → G i = H i) → svals n m G k = svals n m H k
  | 0, _ => rfl
  | k + 1, h => by unfold svals; rw [svals_congr n m k (fun i hi => h i (by omega)), h k (by omega)]
structure BSet (w : World) (base : Nat) (v : Value) (k n m : Nat) (G : Nat → Nat) (F : Nat → Nat → Nat) : Prop where
  o : w.ownsRow base 37 2 v k (svals n m G k)
  r : ∀ i, i < k → w.rowIs (G i) 59 m (fun x => .int .u64 (F i x : Nat))
  b : ∀ i, i < k → base ≤ G i
theorem BSet.below {w w' : World} {base k n m : Nat} {v : Value} {G : Nat → Nat} {F : Nat → Nat → Nat} (h : BSet w base v k n m G F) (b : Below w.heap.size w w') : BSet w' base v k n m G F := ⟨own_below h.o b, fun i hi => row_below (h.r i hi) b, h.b⟩
theorem own_ne_row {w : World} {base e size n m g t : Nat} {v : Value} {xs : List Value} {f : Nat → Value} (h : w.ownsRow base e size v n xs) (hr : w.rowIs g t m f) (hne : e ≠ t) : v.ownBlock ≠ some g := by
  rcases h.2 with ⟨rfl, _⟩ | ⟨g', cap, cur, rfl, _, hg, _⟩
  · intro e; cases e
  · intro e
    injection e with e
    replace e : g' = g := e
    subst e
    obtain ⟨cs, h1, _⟩ := hr
    rw [hg] at h1
    injection h1 with h1
    injection h1 with _ h2 _
    exact hne h2
theorem row_grown {w w' : World} {base e size n m g t : Nat} {v : Value} {xs : List Value} {f : Nat → Value} (hr : w.rowIs g t m f) (h : w.ownsRow base e size v n xs) (hne : e ≠ t) (hg : w.grownBy w' v.ownBlock) : w'.rowIs g t m f :=
  hr.of_block (hg.block g hr.lt (fun e => own_ne_row h hr hne e.symm))
theorem BSet.far {w : World} {base k n m g j l : Nat} {v : Value} {G : Nat → Nat} {F : Nat → Nat → Nat} {f : Nat → Value} (h : BSet w base v k n m G F) (hr : w.rowIs g 59 l f) (hne : ∀ i, i < k → G i ≠ g) (u : Value) : BSet (w.setCell ⟨g, j, none⟩ u) base v k n m G F :=
  ⟨h.o.kept (grown_setCell w _ _) (Or.inr (own_ne_row h.o hr (by decide))), fun i hi => (h.r i hi).setOther (a := ⟨g, j, none⟩) (hne i hi) u, h.b⟩
theorem BSet.farp {w : World} {base k n m : Nat} {v : Value} {G : Nat → Nat} {F : Nat → Nat → Nat} (h : BSet w base v k n m G F) {q : Addr} (hq : q.block < base) (u : Value) : BSet (w.setCell q u) base v k n m G F :=
  ⟨h.o.kept (grown_setCell w _ _) (Or.inr (fun e => by have := (h.o.lt _ e).1; omega)), fun i hi => (h.r i hi).setOther (a := q) (by have := h.b i hi; omega) u, h.b⟩
theorem relAt_put2 {w : World} {p : Nat} {A A' : Option Addr} {n n' c c' : Nat} (h : RelAt w p A n c) : RelAt (w.setCell ⟨p, 0, none⟩ (.slice A' n' c')) p A' n' c' := by
  have := heap_setCell_same w p 0 _ _ (.slice A' n' c') h
  unfold RelAt
  simpa using this
theorem BSet.drew {w : World} {base k n m : Nat} {v : Value} {G : Nat → Nat} {F : Nat → Nat → Nat} (h : BSet w base v k n m G F) : BSet w.drew base v k n m G F := ⟨h.o, h.r, h.b⟩
theorem append_bset {ops : Array Oper} {rest : List Oper} {o : Oper} {a : Act} {Q : Exit → Act → World → Prop} (hgd : o.guard = none) (s x : Operand)
    (ho : o.op = .call { callee := .builtin .append, args := #[s, x], argTypes := #[22, 22] }) (base : Nat) (v : Value) (k n m g : Nat) (G : Nat → Nat) (F : Nat → Nat → Nat) (f : Nat → Nat) (w : World) (hs : a.eval s = v)
    (ht : BSet w base v k n m G F) (hrow : w.rowIs g 59 m (fun x => .int .u64 (f x : Nat))) (hgb : base ≤ g) (hx : a.eval x = .slice (some ⟨w.heap.size, 0, none⟩) 1 1) (hk : k ≤ 1000000) (hbase : base ≤ w.heap.size)
    (h : ∀ g' cap w', BSet w' base (.slice (some ⟨g', 0, none⟩) (k + 1) cap) (k + 1) n m (fun i => if i = k then g else G i) (fun i => if i = k then f else F i) → (w.alloc (.cells #[.int .i64 (n : Int), .slice (some ⟨g, 0, none⟩) m m] 37)).grownBy w' v.ownBlock → (w.alloc (.cells #[.int .i64 (n : Int), .slice (some ⟨g, 0, none⟩) m m] 37)).ownsRow base 37 2 v k (svals n m G k) → wpList Tryd.prog ops Q rest (a.put o.dst (.slice (some ⟨g', 0, none⟩) (k + 1) cap)) w') :
    wpList Tryd.prog ops Q (o :: rest) a (w.alloc (.cells #[.int .i64 (n : Int), .slice (some ⟨g, 0, none⟩) m m] 37)) := by
  have bA : Below w.heap.size w (w.alloc (.cells #[.int .i64 (n : Int), .slice (some ⟨g, 0, none⟩) m m] 37)) := (Below.refl _ _).alloc (Nat.le_refl _) _
  have hA := ht.below bA
  have hrA := row_below hrow bA
  refine append_one_at hgd s x 22 37 ho 2 32 _ Tryd.underlying22 Tryd.info37 rfl (by decide) (by decide) base v k (svals n m G k) hs hA.o w.heap.size #[.int .i64 (n : Int), .slice (some ⟨g, 0, none⟩) m m] hx (heap_alloc_new w _) rfl ?_ hk (by simp; omega) (fun g' cap w' h1 h2 _ _ => h g' cap w' ⟨?_, fun i hi => ?_, fun i hi => ?_⟩ h2 hA.o)
  · intro u hu
    simp at hu
    rcases hu with rfl | rfl <;> rfl
  · have e : svals n m (fun i => if i = k then g else G i) (k + 1) = svals n m G k ++ [.int .i64 (n : Nat), .slice (some ⟨g, 0, none⟩) m m] := by
      show svals n m (fun i => if i = k then g else G i) k ++ _ = _
      rw [svals_congr n m (G := fun i => if i = k then g else G i) (H := G) k (fun i hi => by rw [if_neg (by omega)])]
      simp
    rw [e]; exact h1
  · by_cases e : i = k
    · subst e
      rw [if_pos rfl]
      simp only [if_true]
      exact row_grown hrA hA.o (by decide) h2
    · rw [if_neg e]
      simp only [if_neg e]
      exact row_grown (hA.r i (by omega)) hA.o (by decide) h2
  · by_cases e : i = k
    · rw [if_pos e]; exact hgb
    · rw [if_neg e]; exact ht.b i (by omega)
theorem BSet.put {w : World} {base k n m : Nat} {v : Value} {G : Nat → Nat} {F : Nat → Nat → Nat} (h : BSet w base v k n m G F) (hd : ∀ a b, a < k → b < k → a ≠ b → G a ≠ G b) {i : Nat} (hi : i < k) (j : Nat) :
    BSet (w.setCell ⟨G i, j / 64, none⟩ (.int .u64 (wt (F i) j (j / 64) : Nat))) base v k n m G (fun x => if x = i then wt (F i) j else F x) := by
  refine ⟨h.o.kept (grown_setCell w _ _) (Or.inr (own_ne_row h.o (h.r i hi) (by decide))), fun x hx => ?_, h.b⟩
  by_cases e : x = i
  · subst e
    simp only [if_true]
    refine ((h.r x hx).set (j / 64) _).congr fun y _ => ?_
    by_cases e2 : y = j / 64
    · subst e2; rw [if_pos rfl]
    · rw [if_neg e2]; unfold wt; rw [if_neg e2]
  · simp only [if_neg e]
    exact (h.r x hx).setOther (a := ⟨G i, j / 64, none⟩) (hd x i hx hi e) _
set_option maxRecDepth 100000 in
set_option maxHeartbeats 4000000 in
theorem put_any (A : Option Addr) (n c m i j base : Nat) (G : Nat → Nat) (F : Nat → Nat → Nat) (w : World) (h : BSet w base (.slice A n c) n n m G F) (hd : ∀ a b, a < n → b < n → a ≠ b → G a ≠ G b) (hi : i < n) (hj : j < n)
    (hn : n ≤ 512) (hm : m = (n + 63) / 64) (hu : U64 (F i) m) (hb : base ≤ w.heap.size) :
    Calls Tryd.prog 59 #[.agg #[.slice A n c], .int .i64 i, .int .i64 j] w fun e w' => e = .returned (.tuple #[]) ∧ BSet w' base (.slice A n c) n n m G (fun k => if k = i then wt (F i) j else F k) ∧ Below base w w' ∧ ∀ b, b < w.heap.size → b ≠ G i → w'.heap[b]? = w.heap[b]? := by
  have b0 : Below w.heap.size w (w.alloc (.cells #[.slice A n c] 24)) := (Below.refl _ _).alloc (Nat.le_refl _) _
  have HK : Hid (∀ b, b < w.heap.size → (w.alloc (.cells #[.slice A n c] 24)).heap[b]? = w.heap[b]?) := Lib.hid fun b hb => Below.heap_alloc w _ b hb
  have c0 := (relAt_new w A n c).c0
  have h1 := h.below b0
  have hgi : base ≤ G i := h.b i hi
  have HD := Lib.hid hd
  have hjm : j / 64 < m := by omega
  have huj := hu (j / 64) hjm
  have B0 := Lib.hid (b0.mono hb)
  clear h b0 hb hd hu
  obtain ⟨g, cap, hv, _, hlt⟩ := h1.o.form (by omega)
  injection hv with e1 _ e2
  subst e1 e2
  obtain ⟨g1, g2⟩ := svals_get n m G hi
  have x0 := (h1.o.cellAt (i * 2) (by omega)).trans g1
  have x1 := (h1.o.cellAt (i * 2 + 1) (by omega)).trans g2
  have y0 := (h1.r i hi).cell hjm
  have y1 := (h1.r i hi).frozen (j / 64)
  have H1 := Lib.hid h1
  have hor := or_pow (F i (j / 64)) j huj
  have hst : F i (j / 64) ||| 2 ^ (j % 64) = wt (F i) j (j / 64) := by unfold wt; rw [if_pos rfl]
  rw [hst] at hor
  have hsh := shl_one j
  have hq : (j : Int).tdiv 64 = ((j / 64 : Nat) : Int) := by rw [Int.tdiv_eq_ediv_of_nonneg (by omega)]; rfl
  have hrm : (j : Int).tmod 64 = ((j % 64 : Nat) : Int) := by rw [Int.tmod_eq_emod_of_nonneg (by omega)]; rfl
  clear hst huj g1 g2 h1 hlt
  go_enter Tryd.func59, Tryd.ntmps59
  go_upto_region 1 with fail
  generalize w.alloc (.cells #[.slice (some ⟨g, 0, none⟩) n c] 24) = W at *
  go_wp2_with fail
  go_region
  go_wp2_with fail
  exact bodyPost_end (v := .tuple #[]) (results_none rfl _ _ _) rfl ⟨rfl, (H1.out.put HD.out hi j).drew, (B0.out.setCell (p := ⟨G i, j / 64, none⟩) hgi _).drew, fun b hb hne => (Below.heap_setCell W ⟨G i, j / 64, none⟩ _ b hne).trans (HK.out b hb)⟩
end Go.Proofs.YtakjdihhbndcnaaDoor
