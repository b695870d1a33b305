/- Merged: PPut, PEmp, PCvd, PCvs, PRAt. -/
import Derived.Test.YtakjdihhbndcnaaDoorPRfV
import Derived.Test.YtakjdihhbndcnaaDoorRfB
import Derived.Test.YtakjdihhbndcnaaDoorRPair
import Derived.Deep.RegionLaw
import Derived.Deep.AppendLies
/- Rows of the call's own whose words lie each in a block of its own; the reference's put and Empty. -/
namespace Go.Proofs.YtakjdihhbndcnaaDoor
open Go.RowKit Go.Sort
/- k sets, one behind the other, their words each in a block of its own -/
def svals (n m : Nat) (G : Nat → Nat) : Nat → List Value
  | 0 => []
  | k + 1 => svals n m G k ++ [.int .i64 (n : Nat), .slice (some ⟨G k, 0, none⟩) m m]
theorem svals_len (n m : Nat) (G : Nat → Nat) : ∀ k, (svals n m G k).length = k * 2
  | 0 => rfl
  | k + 1 => by unfold svals; rw [List.length_append, svals_len n m G k]; simp; omega
theorem svals_get (n m : Nat) (G : Nat → Nat) {i : Nat} : ∀ {k : Nat}, i < k → (svals n m G k)[i * 2]? = some (.int .i64 (n : Nat)) ∧ (svals n m G k)[i * 2 + 1]? = some (.slice (some ⟨G i, 0, none⟩) m m)
  | 0, h => absurd h (Nat.not_lt_zero _)
  | k + 1, h => by
    unfold svals
    have hl := svals_len n m G k
    by_cases e : i = k
    · subst e
      rw [List.getElem?_append_right (by omega), List.getElem?_append_right (by omega), hl, Nat.sub_self, show i * 2 + 1 - i * 2 = 1 by omega]
      exact ⟨rfl, rfl⟩
    · rw [List.getElem?_append_left (by omega), List.getElem?_append_left (by omega)]
      exact svals_get n m G (by omega)
theorem svals_congr (n m : Nat) {G H : Nat → Nat} : ∀ k, (∀ i, i < k → G i = H i) → svals n m G k = svals n m H k
  | 0, _ => rfl
  | k + 1, h => by unfold svals; rw [svals_congr n m k (fun i hi => h i (by omega)), h k (by omega)]
structure BSet (w : World) (base : Nat) (v : Value) (k n m : Nat) (G : Nat → Nat) (F : Nat → Nat → Nat) : Prop where
  o : w.ownsRow base 37 2 v k (svals n m G k)
  r : ∀ i, i < k → w.rowIs (G i) 59 m (fun x => .int .u64 (F i x : Nat))
  b : ∀ i, i < k → base ≤ G i
theorem BSet.below {w w' : World} {base k n m : Nat} {v : Value} {G : Nat → Nat} {F : Nat → Nat → Nat} (h : BSet w base v k n m G F) (b : Below w.heap.size w w') : BSet w' base v k n m G F := ⟨own_below h.o b, fun i hi => row_below (h.r i hi) b, h.b⟩
theorem own_ne_row {w : World} {base e size n m g t : Nat} {v : Value} {xs : List Value} {f : Nat → Value} (h : w.ownsRow base e size v n xs) (hr : w.rowIs g t m f) (hne : e ≠ t) : v.ownBlock ≠ some g := by
  rcases h.2 with ⟨rfl, _⟩ | ⟨g', cap, cur, rfl, _, hg, _⟩
  · intro e; cases e
  · intro e
    injection e with e
    replace e : g' = g := e
    subst e
    obtain ⟨cs, h1, _⟩ := hr
    rw [hg] at h1
    injection h1 with h1
    injection h1 with _ h2 _
    exact hne h2
theorem row_grown {w w' : World} {base e size n m g t : Nat} {v : Value} {xs : List Value} {f : Nat → Value} (hr : w.rowIs g t m f) (h : w.ownsRow base e size v n xs) (hne : e ≠ t) (hg : w.grownBy w' v.ownBlock) : w'.rowIs g t m f :=
  hr.of_block (hg.block g hr.lt (fun e => own_ne_row h hr hne e.symm))
theorem BSet.far {w : World} {base k n m g j l : Nat} {v : Value} {G : Nat → Nat} {F : Nat → Nat → Nat} {f : Nat → Value} (h : BSet w base v k n m G F) (hr : w.rowIs g 59 l f) (hne : ∀ i, i < k → G i ≠ g) (u : Value) : BSet (w.setCell ⟨g, j, none⟩ u) base v k n m G F :=
  ⟨h.o.kept (grown_setCell w _ _) (Or.inr (own_ne_row h.o hr (by decide))), fun i hi => (h.r i hi).setOther (a := ⟨g, j, none⟩) (hne i hi) u, h.b⟩
theorem BSet.farp {w : World} {base k n m : Nat} {v : Value} {G : Nat → Nat} {F : Nat → Nat → Nat} (h : BSet w base v k n m G F) {q : Addr} (hq : q.block < base) (u : Value) : BSet (w.setCell q u) base v k n m G F :=
  ⟨h.o.kept (grown_setCell w _ _) (Or.inr (fun e => by have := (h.o.lt _ e).1; omega)), fun i hi => (h.r i hi).setOther (a := q) (by have := h.b i hi; omega) u, h.b⟩
theorem relAt_put2 {w : World} {p : Nat} {A A' : Option Addr} {n n' c c' : Nat} (h : RelAt w p A n c) : RelAt (w.setCell ⟨p, 0, none⟩ (.slice A' n' c')) p A' n' c' := by
  have := heap_setCell_same w p 0 _ _ (.slice A' n' c') h
  unfold RelAt
  simpa using this
theorem BSet.drew {w : World} {base k n m : Nat} {v : Value} {G : Nat → Nat} {F : Nat → Nat → Nat} (h : BSet w base v k n m G F) : BSet w.drew base v k n m G F := ⟨h.o, h.r, h.b⟩
theorem append_bset {ops : Array Oper} {rest : List Oper} {o : Oper} {a : Act} {Q : Exit → Act → World → Prop} (hgd : o.guard = none) (s x : Operand)
    (ho : o.op = .call { callee := .builtin .append, args := #[s, x], argTypes := #[22, 22] }) (base : Nat) (v : Value) (k n m g : Nat) (G : Nat → Nat) (F : Nat → Nat → Nat) (f : Nat → Nat) (w : World) (hs : a.eval s = v)
    (ht : BSet w base v k n m G F) (hrow : w.rowIs g 59 m (fun x => .int .u64 (f x : Nat))) (hgb : base ≤ g) (hx : a.eval x = .slice (some ⟨w.heap.size, 0, none⟩) 1 1) (hk : k ≤ 1000000) (hbase : base ≤ w.heap.size)
    (h : ∀ g' cap w', BSet w' base (.slice (some ⟨g', 0, none⟩) (k + 1) cap) (k + 1) n m (fun i => if i = k then g else G i) (fun i => if i = k then f else F i) → (w.alloc (.cells #[.int .i64 (n : Int), .slice (some ⟨g, 0, none⟩) m m] 37)).grownBy w' v.ownBlock → (w.alloc (.cells #[.int .i64 (n : Int), .slice (some ⟨g, 0, none⟩) m m] 37)).ownsRow base 37 2 v k (svals n m G k) → wpList Tryd.prog ops Q rest (a.put o.dst (.slice (some ⟨g', 0, none⟩) (k + 1) cap)) w') :
    wpList Tryd.prog ops Q (o :: rest) a (w.alloc (.cells #[.int .i64 (n : Int), .slice (some ⟨g, 0, none⟩) m m] 37)) := by
  have bA : Below w.heap.size w (w.alloc (.cells #[.int .i64 (n : Int), .slice (some ⟨g, 0, none⟩) m m] 37)) := (Below.refl _ _).alloc (Nat.le_refl _) _
  have hA := ht.below bA
  have hrA := row_below hrow bA
  refine append_one_at hgd s x 22 37 ho 2 32 _ Tryd.underlying22 Tryd.info37 rfl (by decide) (by decide) base v k (svals n m G k) hs hA.o w.heap.size #[.int .i64 (n : Int), .slice (some ⟨g, 0, none⟩) m m] hx (heap_alloc_new w _) rfl ?_ hk (by simp; omega) (fun g' cap w' h1 h2 _ _ => h g' cap w' ⟨?_, fun i hi => ?_, fun i hi => ?_⟩ h2 hA.o)
  · intro u hu
    simp at hu
    rcases hu with rfl | rfl <;> rfl
  · have e : svals n m (fun i => if i = k then g else G i) (k + 1) = svals n m G k ++ [.int .i64 (n : Nat), .slice (some ⟨g, 0, none⟩) m m] := by
      show svals n m (fun i => if i = k then g else G i) k ++ _ = _
      rw [svals_congr n m (G := fun i => if i = k then g else G i) (H := G) k (fun i hi => by rw [if_neg (by omega)])]
      simp
    rw [e]; exact h1
  · by_cases e : i = k
    · subst e
      rw [if_pos rfl]
      simp only [if_true]
      exact row_grown hrA hA.o (by decide) h2
    · rw [if_neg e]
      simp only [if_neg e]
      exact row_grown (hA.r i (by omega)) hA.o (by decide) h2
  · by_cases e : i = k
    · rw [if_pos e]; exact hgb
    · rw [if_neg e]; exact ht.b i (by omega)
theorem BSet.put {w : World} {base k n m : Nat} {v : Value} {G : Nat → Nat} {F : Nat → Nat → Nat} (h : BSet w base v k n m G F) (hd : ∀ a b, a < k → b < k → a ≠ b → G a ≠ G b) {i : Nat} (hi : i < k) (j : Nat) :
    BSet (w.setCell ⟨G i, j / 64, none⟩ (.int .u64 (wt (F i) j (j / 64) : Nat))) base v k n m G (fun x => if x = i then wt (F i) j else F x) := by
  refine ⟨h.o.kept (grown_setCell w _ _) (Or.inr (own_ne_row h.o (h.r i hi) (by decide))), fun x hx => ?_, h.b⟩
  by_cases e : x = i
  · subst e
    simp only [if_true]
    refine ((h.r x hx).set (j / 64) _).congr fun y _ => ?_
    by_cases e2 : y = j / 64
    · subst e2; rw [if_pos rfl]
    · rw [if_neg e2]; unfold wt; rw [if_neg e2]
  · simp only [if_neg e]
    exact (h.r x hx).setOther (a := ⟨G i, j / 64, none⟩) (hd x i hx hi e) _
set_option maxRecDepth 100000 in
set_option maxHeartbeats 4000000 in
theorem put_any (A : Option Addr) (n c m i j base : Nat) (G : Nat → Nat) (F : Nat → Nat → Nat) (w : World) (h : BSet w base (.slice A n c) n n m G F) (hd : ∀ a b, a < n → b < n → a ≠ b → G a ≠ G b) (hi : i < n) (hj : j < n)
    (hn : n ≤ 512) (hm : m = (n + 63) / 64) (hu : U64 (F i) m) (hb : base ≤ w.heap.size) :
    Calls Tryd.prog 59 #[.agg #[.slice A n c], .int .i64 i, .int .i64 j] w fun e w' => e = .returned (.tuple #[]) ∧ BSet w' base (.slice A n c) n n m G (fun k => if k = i then wt (F i) j else F k) ∧ Below base w w' ∧ ∀ b, b < w.heap.size → b ≠ G i → w'.heap[b]? = w.heap[b]? := by
  have b0 : Below w.heap.size w (w.alloc (.cells #[.slice A n c] 24)) := (Below.refl _ _).alloc (Nat.le_refl _) _
  have HK : Hid (∀ b, b < w.heap.size → (w.alloc (.cells #[.slice A n c] 24)).heap[b]? = w.heap[b]?) := Lib.hid fun b hb => Below.heap_alloc w _ b hb
  have c0 := (relAt_new w A n c).c0
  have h1 := h.below b0
  have hgi : base ≤ G i := h.b i hi
  have HD := Lib.hid hd
  have hjm : j / 64 < m := by omega
  have huj := hu (j / 64) hjm
  have B0 := Lib.hid (b0.mono hb)
  clear h b0 hb hd hu
  obtain ⟨g, cap, hv, _, hlt⟩ := h1.o.form (by omega)
  injection hv with e1 _ e2
  subst e1 e2
  obtain ⟨g1, g2⟩ := svals_get n m G hi
  have x0 := (h1.o.cellAt (i * 2) (by omega)).trans g1
  have x1 := (h1.o.cellAt (i * 2 + 1) (by omega)).trans g2
  have y0 := (h1.r i hi).cell hjm
  have y1 := (h1.r i hi).frozen (j / 64)
  have H1 := Lib.hid h1
  have hor := or_pow (F i (j / 64)) j huj
  have hst : F i (j / 64) ||| 2 ^ (j % 64) = wt (F i) j (j / 64) := by unfold wt; rw [if_pos rfl]
  rw [hst] at hor
  have hsh := shl_one j
  have hq : (j : Int).tdiv 64 = ((j / 64 : Nat) : Int) := by rw [Int.tdiv_eq_ediv_of_nonneg (by omega)]; rfl
  have hrm : (j : Int).tmod 64 = ((j % 64 : Nat) : Int) := by rw [Int.tmod_eq_emod_of_nonneg (by omega)]; rfl
  clear hst huj g1 g2 h1 hlt
  go_enter Tryd.func59, Tryd.ntmps59
  go_upto_region 1 with fail
  generalize w.alloc (.cells #[.slice (some ⟨g, 0, none⟩) n c] 24) = W at *
  go_wp2_with fail
  go_region
  go_wp2_with fail
  exact bodyPost_end (v := .tuple #[]) (results_none rfl _ _ _) rfl ⟨rfl, (H1.out.put HD.out hi j).drew, (B0.out.setCell (p := ⟨G i, j / 64, none⟩) hgi _).drew, fun b hb hne => (Below.heap_setCell W ⟨G i, j / 64, none⟩ _ b hne).trans (HK.out b hb)⟩
end Go.Proofs.YtakjdihhbndcnaaDoor
/- The reference's Empty. -/
namespace Go.Proofs.YtakjdihhbndcnaaDoor
open Go.RowKit Go.Sort
theorem BSet.mono {w : World} {base base' k n m : Nat} {v : Value} {G : Nat → Nat} {F : Nat → Nat → Nat} (h : BSet w base v k n m G F) (hb : base' ≤ base) : BSet w base' v k n m G F := ⟨own_mono h.o hb, h.r, fun i hi => Nat.le_trans hb (h.b i hi)⟩
theorem step_append_bset {ops : Array Oper} {o : Oper} {a : Act} {K : Act → World → Prop} {Q : Exit → Act → World → Prop} {Ee : Prop} (hgd : o.guard = none) (s x : Operand)
    (ho : o.op = .call { callee := .builtin .append, args := #[s, x], argTypes := #[22, 22] }) (base : Nat) (v : Value) (k n m g : Nat) (G : Nat → Nat) (F : Nat → Nat → Nat) (f : Nat → Nat) (w : World) (hs : a.eval s = v)
    (ht : BSet w base v k n m G F) (hrow : w.rowIs g 59 m (fun x => .int .u64 (f x : Nat))) (hgb : base ≤ g) (hx : a.eval x = .slice (some ⟨w.heap.size, 0, none⟩) 1 1) (hk : k ≤ 1000000) (hbase : base ≤ w.heap.size)
    (h : ∀ g' cap w', BSet w' base (.slice (some ⟨g', 0, none⟩) (k + 1) cap) (k + 1) n m (fun i => if i = k then g else G i) (fun i => if i = k then f else F i) → (w.alloc (.cells #[.int .i64 (n : Int), .slice (some ⟨g, 0, none⟩) m m] 37)).grownBy w' v.ownBlock → (w.alloc (.cells #[.int .i64 (n : Int), .slice (some ⟨g, 0, none⟩) m m] 37)).ownsRow base 37 2 v k (svals n m G k) → K (a.put o.dst (.slice (some ⟨g', 0, none⟩) (k + 1) cap)) w') :
    if Region.wanted o (yielded ops a.tmps) = true then Oper.wp Tryd.prog o a (w.alloc (.cells #[.int .i64 (n : Int), .slice (some ⟨g, 0, none⟩) m m] 37)) K Q else Ee := by
  obtain ⟨i0, hi, hz, hsz', hb'⟩ := info_parts Tryd.info37
  have bA : Below w.heap.size w (w.alloc (.cells #[.int .i64 (n : Int), .slice (some ⟨g, 0, none⟩) m m] 37)) := (Below.refl _ _).alloc (Nat.le_refl _) _
  have hA := ht.below bA
  have hrA := row_below hrow bA
  have hB : (w.alloc (.cells #[.int .i64 (n : Int), .slice (some ⟨g, 0, none⟩) m m] 37)).heap[w.heap.size]? = some (.cells #[.int .i64 (n : Int), .slice (some ⟨g, 0, none⟩) m m] 37 (0, 0)) := heap_alloc_new w _
  refine step_append_lies _ hgd s x 22 ho base 37 i0 _ 2 32 Tryd.underlying22 hi hz hsz' hb' rfl (by decide) v k (svals n m G k) hs hA.o ⟨w.heap.size, 0, none⟩ 1 1 [.int .i64 (n : Int), .slice (some ⟨g, 0, none⟩) m m] hx (by simp) ?_ ?_ (by decide) (by unfold maxLen; omega) (by omega) (by simp; omega) (w.alloc (.cells #[.int .i64 (n : Int), .slice (some ⟨g, 0, none⟩) m m] 37)).heap.size rfl (fun g' cap w' h1 h2 _ _ => h g' cap w' ⟨?_, fun i hi => ?_, fun i hi => ?_⟩ h2 hA.o)
  · intro j u hu'
    have hadd : (⟨w.heap.size, 0, none⟩ : Addr).add j = ⟨w.heap.size, j, none⟩ := by unfold Addr.add; split <;> simp_all
    rw [hadd, cell_of_row _ _ j _ _ _ hB]
    simpa using hu'
  · intro u hu
    simp at hu
    rcases hu with rfl | rfl <;> rfl
  · have e : svals n m (fun i => if i = k then g else G i) (k + 1) = svals n m G k ++ [.int .i64 (n : Nat), .slice (some ⟨g, 0, none⟩) m m] := by
      show svals n m (fun i => if i = k then g else G i) k ++ _ = _
      rw [svals_congr n m (G := fun i => if i = k then g else G i) (H := G) k (fun i hi => by rw [if_neg (by omega)])]
      simp
    rw [e]; exact h1
  · by_cases e : i = k
    · subst e
      rw [if_pos rfl]
      simp only [if_true]
      exact row_grown hrA hA.o (by decide) h2
    · rw [if_neg e]
      simp only [if_neg e]
      exact row_grown (hA.r i (by omega)) hA.o (by decide) h2
  · by_cases e : i = k
    · rw [if_pos e]; exact hgb
    · rw [if_neg e]; exact ht.b i (by omega)
/- k sets without members, each in blocks of its own -/
def EmptyEnd (w : World) (n m : Nat) (e : Ending) (w' : World) : Prop :=
  ∃ A c G, e = .returned (.agg #[.slice A n c]) ∧ BSet w' w.heap.size (.slice A n c) n n m G (fun _ _ => 0) ∧ (∀ a b, a < n → b < n → a ≠ b → G a ≠ G b) ∧ Below w.heap.size w w'
set_option maxRecDepth 100000 in
set_option maxHeartbeats 4000000 in
theorem empty_any (n : Nat) (w : World) (hn : n ≤ 512) : Calls Tryd.prog 57 #[.int .i64 n] w (EmptyEnd w n ((n + 63) / 64)) := by
  have r0 := (relAt_new w none 0 0).alloc (.cells #[.slice none 0 0] 24)
  have r1 := relAt_new (w.alloc (.cells #[.slice none 0 0] 24)) none 0 0
  have e1 : (w.alloc (.cells #[.slice none 0 0] 24)).heap.size = w.heap.size + 1 := by simp
  rw [e1] at r1
  have b0 : Below w.heap.size w ((w.alloc (.cells #[.slice none 0 0] 24)).alloc (.cells #[.slice none 0 0] 24)) := ((Below.refl _ _).alloc (Nat.le_refl _) _).alloc (by simp) _
  clear e1
  go_enter Tryd.func57, Tryd.ntmps57
  go_wp2_with fail
  go_loopw [4] (fun i wr => ∃ (K : Nat) (Av : Option Addr) (cv : Nat) (G : Nat → Nat), i = .int .i64 K ∧ K ≤ n ∧ RelAt wr (w.heap.size + 1) Av K cv ∧ BSet wr (w.heap.size + 2) (.slice Av K cv) K n ((n + 63) / 64) G (fun _ _ => 0) ∧ Hid (∀ a b, a < K → b < K → a ≠ b → G a ≠ G b) ∧ RelAt wr w.heap.size none 0 0 ∧ Below w.heap.size w wr) (fun i _ => n - (intOf i).toNat)
  case atStart => exact ⟨0, none, 0, fun _ => 0, rfl, by omega, r1, ⟨World.ownsRow_nil _ _ _ _, fun i hi => absurd hi (Nat.not_lt_zero _), fun i hi => absurd hi (Nat.not_lt_zero _)⟩, Lib.hid (fun _ _ h => absurd h (Nat.not_lt_zero _)), r0, b0⟩
  case round =>
    clear r0 r1 b0
    obtain ⟨K, Av, cv, G, rfl, hK, hr1, hBS, hD, hr0, hB⟩ := hrel
    by_cases hlt : K < n
    · have c0 := hr1.c0
      have f0 := hr1.free 0
      have HR1 := Lib.hid hr1
      have HR0 := Lib.hid hr0
      have HBS := Lib.hid hBS
      have HB := Lib.hid hB
      have hbw : w.heap.size + 2 ≤ wr.heap.size := by have := hr1.lt; omega
      clear hr1 hr0 hBS hB
      go_wp2_with fail
      go_region_law (first
        | (refine step_append_bset rfl (.tmp 12) (.tmp 15) rfl (w.heap.size + 2) (.slice Av K cv) K n ((n + 63) / 64) g G (fun _ _ => 0) (fun _ => 0) _ (by simp [Act.eval]) (HBS.out.below bx) hrow (by have : wr.drew.heap.size = wr.heap.size := rfl; omega) (by simp [Act.eval]) (by omega) (by have := bx.size; omega) ?_; intro g9 c9 w9 hBS9 hg9 hown9; have hr9 : RelAt w9 (w.heap.size + 1) Av K cv := (hg9.block _ (((HR1.out.below bx).alloc _).lt) (fun e => by have := (hown9.lt _ e.symm).1; omega)).trans ((HR1.out.below bx).alloc _); have k9 := hr9.c0; have f9 := hr9.free 0)
        | (go_simp; (with_reducible refine (refEmpty_any n _ hn).mono ?_); rintro e w5 ⟨g, rfl, hg, hrow, b5⟩; have bx := below_next ((Below.refl _ wr).drew) b5; have c5 := (HR1.out.below bx).c0; have c6 := ((HR1.out.below bx).alloc (.cells #[.int .i64 (n : Int), .slice (some ⟨g, 0, none⟩) ((n + 63) / 64) ((n + 63) / 64)] 37)).c0))
      all_goals
        have hg' : wr.heap.size ≤ g := hg
        have bP := bx.alloc bx.size (.cells #[.int .i64 (n : Int), .slice (some ⟨g, 0, none⟩) ((n + 63) / 64) ((n + 63) / 64)] 37)
        have B9 := grown_below2 (below_next HB.out bP) hown9 (by omega) hg9
        have hr8 : RelAt w9 w.heap.size none 0 0 := (hg9.block _ (((HR0.out.below bx).alloc _).lt) (fun e => by have := (hown9.lt _ e.symm).1; omega)).trans ((HR0.out.below bx).alloc _)
        have hF : (fun i => if i = K then (fun _ => 0) else (fun (_ _ : Nat) => 0) i) = (fun (_ _ : Nat) => 0) := funext fun i => by split <;> rfl
        rw [hF] at hBS9
        have hD9 : Hid (∀ a b, a < K + 1 → b < K + 1 → a ≠ b → (fun i => if i = K then g else G i) a ≠ (fun i => if i = K then g else G i) b) := Lib.hid fun a b ha hb hab => by
          by_cases ea : a = K
          · by_cases eb : b = K
            · omega
            · simp only [if_pos ea, if_neg eb]
              have := (HBS.out.r b (by omega)).lt; omega
          · by_cases eb : b = K
            · simp only [if_neg ea, if_pos eb]
              have := (HBS.out.r a (by omega)).lt; omega
            · simp only [if_neg ea, if_neg eb]
              exact hD.out a b (by omega) (by omega) hab
        clear hrow b5 c5 c6 bx c0 f0 HR1 HR0 HBS HB hD bP hown9 hg9 hF k9 f9
        go_wp2_with fail
        go_roundw
        case rel => exact ⟨K + 1, _, _, _, by go_num, by omega, relAt_put2 hr9, hBS9.farp (q := ⟨w.heap.size + 1, 0, none⟩) (by show w.heap.size + 1 < w.heap.size + 2; omega) _, hD9, hr8.far (by show w.heap.size ≠ w.heap.size + 1; omega) _, B9.setCell (p := ⟨w.heap.size + 1, 0, none⟩) (by show w.heap.size ≤ w.heap.size + 1; omega) _⟩
        case measure => simp [intOf]; omega
    · obtain rfl : K = n := by omega
      have o0 := hr1.c0
      have r0 := hr0.c0
      have f0 := hr0.free 0
      have H1 := Lib.hid ((hBS.farp (q := ⟨w.heap.size, 0, none⟩) (by show w.heap.size < w.heap.size + 2; omega) (.slice Av K cv)).mono (show w.heap.size ≤ w.heap.size + 2 by omega))
      have HB := Lib.hid (hB.setCell (p := ⟨w.heap.size, 0, none⟩) (Nat.le_refl _) (.slice Av K cv))
      clear hBS hB
      go_wp2_with fail
      refine bodyPost_ret (v := .agg #[.slice Av K cv]) (by simp [results, Tryd.results57, go_sem, r0]) rfl ?_
      exact ⟨Av, cv, G, rfl, H1.out, hD.out, HB.out⟩
end Go.Proofs.YtakjdihhbndcnaaDoor
/- The reference's Covered. -/
namespace Go.Proofs.YtakjdihhbndcnaaDoor
open Go.RowKit Go.Sort
/- what the reference asks of a pair -/
def covB (n : Nat) (T : Nat → Nat → Bool) (i j : Nat) : Bool := T i j && !comp n T T i j
theorem covB_red {n : Nat} {R : Nat → RowD} (h : POrd n R) {i j : Nat} (hi : i < n) (hj : j < n) : covB n (mat R) i j = red n (mat R) i j := by
  unfold covB red
  rw [comp_congr (fun _ _ _ _ => rfl) (fun a ha b hb => (pord_clo h.2 ha hb).symm) i hi j hj]
set_option maxHeartbeats 4000000 in
theorem covd_any (A : Option Addr) (n c i j : Nat) (R : Nat → RowD) (v : Bool) (w : World) (h : Rel w A n R) (hv : VRel n R) (hi : i < n) (hj : j < n) (hvv : covB n (mat R) i j = v) :
    Calls Tryd.prog 58 #[.agg #[.slice A n c], .int .i64 i, .int .i64 j] w fun e w' => e = .returned (.bool v) ∧ Below w.heap.size w w' := by
  have HH := Lib.hid h
  have HV := Lib.hid hv
  have HVV := Lib.hid hvv
  have hn := hv.1
  have b0 : Below w.heap.size w (w.alloc (.cells #[.slice A n c] 24)) := (Below.refl _ _).alloc (Nat.le_refl _) _
  have r0 := relAt_new w A n c
  have c0 := r0.c0
  clear h hv hvv
  go_enter Tryd.func58, Tryd.ntmps58
  go_upto_region 1 with fail
  generalize w.alloc (.cells #[.slice A n c] 24) = W at *
  have HL := Lib.hid (rless_any A n c i j R W (HH.out.below b0) HV.out hi hj)
  obtain ⟨va, hva⟩ : ∃ v, mat R i j = v := ⟨_, rfl⟩
  rw [hva] at HL
  have HVA := Lib.hid hva
  clear hva
  go_wp2_with fail
  refine HL.out.mono ?_; rintro e w2 ⟨rfl, b2⟩
  have r2 := r0.below b2
  have B2 := below_next b0 b2
  clear r0 b0 b2 c0 HL
  cases va with
  | false =>
    have hv0 : v = false := by
      rw [← HVV.out]; unfold covB; rw [HVA.out]; rfl
    subst hv0
    go_wp2_with fail
    go_ret
    exact ⟨rfl, B2⟩
  | true =>
    go_wp2_with fail
    go_loopw [7] (fun k wr => ∃ K : Nat, K ≤ n ∧ k = .int .i64 K ∧ Hid (∀ x, x < K → (mat R i x && mat R x j) = false) ∧ RelAt wr w.heap.size A n c ∧ Below w.heap.size w wr) (fun k _ => n - (intOf k).toNat)
    case atStart => exact ⟨0, Nat.zero_le _, rfl, Lib.hid (fun _ h => absurd h (Nat.not_lt_zero _)), r2, B2⟩
    case round =>
      clear r2 B2
      obtain ⟨K, hK, rfl, hQ, hr, hB⟩ := hrel
      by_cases hlt : K < n
      · have hwrap : IntKind.i64.wrap ((K : Int) + 1) = (K : Int) + 1 := IntWalk.i64_in _ (by omega)
        have HL1 := Lib.hid (rless_any A n c i K R wr (HH.out.below hB) HV.out hi hlt)
        obtain ⟨v1, hv1⟩ : ∃ v, mat R i K = v := ⟨_, rfl⟩
        rw [hv1] at HL1
        have HV1 := Lib.hid hv1
        have c0 := hr.c0
        clear hv1
        cases v1 with
        | false =>
          have hQ2 : Hid (∀ x, x < K + 1 → (mat R i x && mat R x j) = false) := Lib.hid fun x hx => by
            by_cases e : x = K
            · subst e; rw [HV1.out]; rfl
            · exact hQ.out x (by omega)
          go_wp2_with fail
          refine HL1.out.mono ?_; rintro e w3 ⟨rfl, b3⟩
          have hr3 := hr.below b3
          have B3 := below_next hB b3
          clear c0 hr hB b3 HL1 hQ
          go_wp2_with fail
          go_roundw
          case rel => exact ⟨K + 1, hlt, by go_num, hQ2, hr3, B3⟩
          case measure => simp [intOf]; omega
        | true =>
          go_wp2_with fail
          refine HL1.out.mono ?_; rintro e w3 ⟨rfl, b3⟩
          have hr3 := hr.below b3
          have B3 := below_next hB b3
          clear c0 hr hB b3 HL1
          have c3 := hr3.c0
          have HL2 := Lib.hid (rless_any A n c K j R w3 (HH.out.below B3) HV.out hlt hj)
          obtain ⟨v2, hv2⟩ : ∃ v, mat R K j = v := ⟨_, rfl⟩
          rw [hv2] at HL2
          have HV2 := Lib.hid hv2
          clear hv2
          go_wp2_with fail
          refine HL2.out.mono ?_; rintro e w4 ⟨rfl, b4⟩
          have hr4 := hr3.below b4
          have B4 := below_next B3 b4
          clear c3 hr3 B3 b4 HL2
          cases v2 with
          | false =>
            have hQ2 : Hid (∀ x, x < K + 1 → (mat R i x && mat R x j) = false) := Lib.hid fun x hx => by
              by_cases e : x = K
              · subst e; rw [HV2.out]; simp
              · exact hQ.out x (by omega)
            clear hQ
            go_wp2_with fail
            go_roundw
            case rel => exact ⟨K + 1, hlt, by go_num, hQ2, hr4, B4⟩
            case measure => simp [intOf]; omega
          | true =>
            have hv0 : v = false := by
              have h1 : comp n (mat R) (mat R) i j = true := comp_iff.2 ⟨K, hlt, HV1.out, HV2.out⟩
              rw [← HVV.out]; unfold covB; rw [h1]; simp
            subst hv0
            go_wp2_with fail
            go_ret
            exact ⟨rfl, B4⟩
      · obtain rfl : K = n := by omega
        have hv1 : v = true := by
          have h1 : comp K (mat R) (mat R) i j = false := by
            cases hc : comp K (mat R) (mat R) i j with
            | false => rfl
            | true =>
              obtain ⟨x, hx, h2, h3⟩ := comp_iff.1 hc
              have := hQ.out x hx
              rw [h2, h3] at this; cases this
          rw [← HVV.out]; unfold covB; rw [HVA.out, h1]; rfl
        subst hv1
        have c0 := hr.c0
        go_wp2_with fail
        go_ret
        exact ⟨rfl, hB⟩
end Go.Proofs.YtakjdihhbndcnaaDoor
/- The reference's Covers. -/
namespace Go.Proofs.YtakjdihhbndcnaaDoor
open Go.RowKit Go.Sort
/- the words of the first D truths -/
def tw (T : Nat → Bool) : Nat → Nat → Nat
  | 0 => fun _ => 0
  | D + 1 => if T D = true then wt (tw T D) D else tw T D
theorem tw_u64 (T : Nat → Bool) (D m : Nat) : U64 (tw T D) m := by
  induction D with
  | zero => intro k _; show 0 < _; omega
  | succ D ih =>
    show U64 (if T D = true then wt (tw T D) D else tw T D) m
    split
    · exact wt_u64 ih _
    · exact ih
theorem bt_tw (T : Nat → Bool) : ∀ (D j : Nat), bt (tw T D) j = (decide (j < D) && T j)
  | 0, j => by simp [bt, tw]
  | D + 1, j => by
    have ih := bt_tw T D j
    show bt (if T D = true then wt (tw T D) D else tw T D) j = _
    by_cases h : T D = true
    · rw [if_pos h, bt_wt, ih]
      by_cases e : j = D
      · subst e; simp [h]
      · have h1 : decide (j < D + 1) = decide (j < D) := by rw [decide_eq_decide]; omega
        rw [h1, decide_eq_false e]; simp
    · rw [if_neg h, ih]
      by_cases e : j = D
      · subst e; simp [h]
      · have h1 : decide (j < D + 1) = decide (j < D) := by rw [decide_eq_decide]; omega
        rw [h1]
theorem tw_vld (T : Nat → Bool) {n m : Nat} (hn : n ≤ 512) (hm : m = (n + 63) / 64) : Vld (n : Int) m (tw T n) :=
  ⟨by omega, by omega, by simpa using hm, fun i hi _ => by rw [bt_tw, decide_eq_false (by simp at hi; omega)]; rfl⟩
theorem BSet.rel {w : World} {base n m c : Nat} {A : Option Addr} {G : Nat → Nat} {T : Nat → Nat → Bool} (h : BSet w base (.slice A n c) n n m G (fun i => tw (T i) n)) (hn : n ≤ 512) (hm : m = (n + 63) / 64) :
    ∃ R, Rel w A n R ∧ Fresh base A n R ∧ VRel n R ∧ ∀ i, i < n → ∀ j, j < n → mat R i j = T i j := by
  refine ⟨fun i => ⟨n, some ⟨G i, 0, none⟩, m, m, tw (T i) n⟩, fun h0 => ?_, ⟨fun a ha => (h.o.lt a.block (by rw [ha]; rfl)).1, fun k hk a ha => by injection ha with ha; rw [← ha]; exact h.b k hk⟩, ⟨hn, fun i _ => ⟨rfl, tw_vld (T i) hn hm⟩⟩, fun i _ j hj => ?_⟩
  · obtain ⟨g, cap, hv, _, hlt⟩ := h.o.form h0
    injection hv with e1 _ e2
    subst e1 e2
    refine ⟨g, 0, rfl, hlt, fun k hk => ?_⟩
    obtain ⟨g1, g2⟩ := svals_get n m G hk
    rw [Nat.zero_add]
    exact ⟨(h.o.cellAt (k * 2) (by omega)).trans g1, (h.o.cellAt (k * 2 + 1) (by omega)).trans g2, row_wds (h.r k hk) (tw_u64 _ _ _)⟩
  · show bt (tw (T i) n) j = _
    rw [bt_tw, decide_eq_true hj]; rfl
def RelNew (w : World) (n : Nat) (T : Nat → Nat → Bool) (e : Ending) (w' : World) : Prop :=
  ∃ A c R, e = .returned (.agg #[.slice A n c]) ∧ Rel w' A n R ∧ Fresh w.heap.size A n R ∧ VRel n R ∧ (∀ i, i < n → ∀ j, j < n → mat R i j = T i j) ∧ Below w.heap.size w w'
theorem BSet.congr {w : World} {base k n m : Nat} {v : Value} {G : Nat → Nat} {F F' : Nat → Nat → Nat} (h : BSet w base v k n m G F) (e : ∀ i, i < k → F i = F' i) : BSet w base v k n m G F' :=
  ⟨h.o, fun i hi => by rw [← e i hi]; exact h.r i hi, h.b⟩
theorem relAt_ne_row {w : World} {q n c g m : Nat} {A : Option Addr} {f : Nat → Value} (h : RelAt w q A n c) (hr : w.rowIs g 59 m f) : q ≠ g := by
  intro e
  subst e
  obtain ⟨cs, h1, _⟩ := hr
  unfold RelAt at h
  rw [h] at h1
  injection h1 with h1
  injection h1 with _ h2 _
  exact absurd h2 (by decide)
/- the words after K rows and D truths of the next -/
def fw (T : Nat → Nat → Bool) (n K D : Nat) : Nat → Nat → Nat := fun k => if k < K then tw (T k) n else if k = K then tw (T k) D else tw (T k) 0
theorem fw_start (T : Nat → Nat → Bool) (n : Nat) : (fun _ _ => 0) = fw T n 0 0 := by
  funext k
  unfold fw
  rw [if_neg (Nat.not_lt_zero _)]
  split <;> rfl
theorem fw_next (T : Nat → Nat → Bool) (n K : Nat) : fw T n K n = fw T n (K + 1) 0 := by
  funext k
  unfold fw
  by_cases h : k < K
  · rw [if_pos h, if_pos (by omega)]
  · by_cases e : k = K
    · rw [if_neg h, if_pos e, if_pos (by omega)]
    · rw [if_neg h, if_neg e, if_neg (by omega)]
      split <;> rfl
theorem fw_yes {T : Nat → Nat → Bool} {n K D : Nat} (h : T K D = true) : (fun k => if k = K then wt (fw T n K D K) D else fw T n K D k) = fw T n K (D + 1) := by
  funext k
  unfold fw
  by_cases e : k = K
  · subst e
    rw [if_pos rfl, if_neg (Nat.lt_irrefl _), if_pos rfl, if_neg (Nat.lt_irrefl _), if_pos rfl]
    show _ = if T k D = true then wt (tw (T k) D) D else tw (T k) D
    rw [if_pos h]
  · rw [if_neg e, if_neg e, if_neg e]
theorem fw_no {T : Nat → Nat → Bool} {n K D : Nat} (h : T K D = false) : fw T n K D = fw T n K (D + 1) := by
  funext k
  unfold fw
  by_cases e : k = K
  · subst e
    rw [if_neg (Nat.lt_irrefl _), if_pos rfl, if_neg (Nat.lt_irrefl _), if_pos rfl]
    show _ = if T k D = true then wt (tw (T k) D) D else tw (T k) D
    rw [if_neg (by rw [h]; decide)]
  · rw [if_neg e, if_neg e]
theorem fw_u64 (T : Nat → Nat → Bool) (n K D m : Nat) : U64 (fw T n K D K) m := by
  unfold fw
  rw [if_neg (Nat.lt_irrefl _), if_pos rfl]
  exact tw_u64 _ _ _
set_option maxRecDepth 100000 in
set_option maxHeartbeats 4000000 in
theorem rcovers_any (A : Option Addr) (n c : Nat) (R : Nat → RowD) (w : World) (h : Rel w A n R) (hv : VRel n R) : Calls Tryd.prog 23 #[.agg #[.slice A n c]] w (RelNew w n (covB n (mat R))) := by
  have HH := Lib.hid h
  have HV := Lib.hid hv
  have hn := hv.1
  have b0 : Below w.heap.size w ((w.alloc (.cells #[.slice A n c] 24)).alloc (.cells #[.slice none 0 0] 24)) := ((Below.refl _ _).alloc (Nat.le_refl _) _).alloc (by simp) _
  have rA := (relAt_new w A n c).alloc (.cells #[.slice none 0 0] 24)
  have rR := relAt_new (w.alloc (.cells #[.slice A n c] 24)) none 0 0
  have e1 : (w.alloc (.cells #[.slice A n c] 24)).heap.size = w.heap.size + 1 := by simp
  rw [e1] at rR
  have hsz : ((w.alloc (.cells #[.slice A n c] 24)).alloc (.cells #[.slice none 0 0] 24)).heap.size = w.heap.size + 2 := by simp
  have c0 := rA.c0
  obtain ⟨T, hT⟩ : ∃ T, T = covB n (mat R) := ⟨_, rfl⟩
  rw [← hT]
  have HTT := Lib.hid hT
  obtain ⟨m, hm⟩ : ∃ m, m = (n + 63) / 64 := ⟨_, rfl⟩
  have HM := Lib.hid hm
  clear h hv e1 hT
  go_enter Tryd.func23, Tryd.ntmps23
  go_upto_region 2 with fail
  generalize (w.alloc (.cells #[.slice A n c] 24)).alloc (.cells #[.slice none 0 0] 24) = W at *
  have HE := Lib.hid (empty_any n W hn)
  rw [← hm] at HE
  clear hm
  go_wp2_with fail
  refine HE.out.mono ?_; rintro e w2 ⟨Ao, co, G, rfl, hS, hD, b2⟩
  rw [hsz, fw_start T n] at hS
  have HD := Lib.hid hD
  have bN : Below w2.heap.size w2 (w2.alloc (.cells #[.slice Ao n co] 24)) := (Below.refl _ _).alloc (Nat.le_refl _) _
  have rA3 := (rA.below b2).below bN
  have rR3 := (rR.below b2).below bN
  have B3 := below_next (below_next b0 b2) bN
  have hS3 := hS.below bN
  have rO3 := relAt_new w2 Ao n co
  clear HE hD hS rA rR b0 b2 bN c0 hsz
  go_wp2_with fail
  generalize w2.heap.size = q at *
  generalize w2.alloc (.cells #[.slice Ao n co] 24) = W3 at *
  go_loopw [5, 6] (fun i _ wr => ∃ K : Nat, K ≤ n ∧ i = .int .i64 K ∧ BSet wr (w.heap.size + 2) (.slice Ao n co) n n m G (fw T n K 0) ∧ RelAt wr w.heap.size A n c ∧ RelAt wr (w.heap.size + 1) none 0 0 ∧ RelAt wr q Ao n co ∧ Below w.heap.size w wr) (fun i _ _ => n - (intOf i).toNat)
  case atStart => exact ⟨0, Nat.zero_le _, rfl, hS3, rA3, rR3, rO3, B3⟩
  case round =>
    clear hS3 rA3 rR3 rO3 B3
    obtain ⟨K, hK, rfl, hS, hA, hR, hO, hB⟩ := hrel
    by_cases hlt : K < n
    · go_wp2_with fail
      go_loopw [6] (fun j wr => ∃ D : Nat, D ≤ n ∧ j = .int .i64 D ∧ BSet wr (w.heap.size + 2) (.slice Ao n co) n n m G (fw T n K D) ∧ RelAt wr w.heap.size A n c ∧ RelAt wr (w.heap.size + 1) none 0 0 ∧ RelAt wr q Ao n co ∧ Below w.heap.size w wr) (fun j _ => n - (intOf j).toNat)
      case atStart => exact ⟨0, Nat.zero_le _, rfl, hS, hA, hR, hO, hB⟩
      case round =>
        clear hS hA hR hO hB
        obtain ⟨D, hDn, rfl, hS, hA, hR, hO, hB⟩ := hrel
        by_cases hlt2 : D < n
        · have c0 := hA.c0
          obtain ⟨v, hv⟩ : ∃ v, T K D = v := ⟨_, rfl⟩
          have HC := Lib.hid (covd_any A n c K D R v _ (HH.out.below hB) HV.out hlt hlt2 (by rw [← HTT.out]; exact hv))
          have HVV := Lib.hid hv
          clear hv
          go_wp2_with fail
          refine HC.out.mono ?_; rintro e w4 ⟨rfl, b4⟩
          have hS4 := hS.below b4
          have hA4 := hA.below b4
          have hR4 := hR.below b4
          have hO4 := hO.below b4
          have hB4 := below_next hB b4
          clear c0 HC hS hA hR hO hB b4
          cases v with
          | false =>
            rw [fw_no HVV.out] at hS4
            go_wp2_with fail
            go_roundw
            case rel => exact ⟨D + 1, hlt2, by go_num, hS4, hA4, hR4, hO4, hB4⟩
            case measure => simp [intOf]; omega
          | true =>
            have o0 := hO4.c0
            have hlq := hO4.lt
            have hne := relAt_ne_row hO4 (hS4.r K hlt)
            have HP := Lib.hid (put_any Ao n co m K D (w.heap.size + 2) G (fw T n K D) w4 hS4 HD.out hlt hlt2 hn HM.out (fw_u64 T n K D m) (by have := hR4.lt; omega))
            rw [fw_yes HVV.out] at HP
            go_wp2_with fail
            refine HP.out.mono ?_; rintro e w5 ⟨rfl, hS5, b5, hk5⟩
            have hA5 : RelAt w5 w.heap.size A n c := (b5.block _ (by omega)).trans hA4
            have hR5 : RelAt w5 (w.heap.size + 1) none 0 0 := (b5.block _ (by omega)).trans hR4
            have hO5 : RelAt w5 q Ao n co := (hk5 q hlq hne).trans hO4
            have hB5 := hB4.trans (b5.mono (show w.heap.size ≤ w.heap.size + 2 by omega))
            clear o0 hlq hne HP hS4 hA4 hR4 hO4 hB4 b5 hk5
            go_wp2_with fail
            go_roundw
            case rel => exact ⟨D + 1, hlt2, by go_num, hS5, hA5, hR5, hO5, hB5⟩
            case measure => simp [intOf]; omega
        · obtain rfl : D = n := by omega
          rw [fw_next] at hS
          go_wp2_with fail
          go_roundw
          case rel => exact ⟨K + 1, by omega, by go_num, hS, hA, hR, hO, hB⟩
          case measure => simp [intOf]; omega
    · obtain rfl : K = n := by omega
      have o0 := hO.c0
      have r0 := hR.c0
      have f0 := hR.free 0
      have hS2 := hS.congr (F' := fun i => tw (T i) K) (fun i hi => by unfold fw; rw [if_pos hi])
      obtain ⟨S, h1, h4, h2, h3⟩ := (hS2.farp (q := ⟨w.heap.size + 1, 0, none⟩) (by show w.heap.size + 1 < w.heap.size + 2; omega) (.slice Ao K co)).rel hn HM.out
      have H1 := Lib.hid h1
      have H2 := Lib.hid h2
      have H3 := Lib.hid h3
      have H4 := Lib.hid (h4.mono (show w.heap.size ≤ w.heap.size + 2 by omega))
      have H5 := Lib.hid (hB.setCell (p := ⟨w.heap.size + 1, 0, none⟩) (by show w.heap.size ≤ w.heap.size + 1; omega) (.slice Ao K co))
      clear h1 h2 h3 h4 hS hS2 hB
      go_wp2_with fail
      refine bodyPost_ret (v := .agg #[.slice Ao K co]) (by simp [results, Tryd.results23, go_sem, r0]) rfl ?_
      exact ⟨Ao, co, S, rfl, H1.out, H4.out, H2.out, H3.out, H5.out⟩
end Go.Proofs.YtakjdihhbndcnaaDoor
/- A relation that the call makes, as a table of truths: the reference's Less and put on it. -/
namespace Go.Proofs.YtakjdihhbndcnaaDoor
open Go.RowKit Go.Sort
theorem tw_congr {T S : Nat → Bool} : ∀ {n : Nat}, (∀ j, j < n → T j = S j) → tw T n = tw S n
  | 0, _ => rfl
  | n + 1, h => by
    show (if T n = true then wt (tw T n) n else tw T n) = if S n = true then wt (tw S n) n else tw S n
    rw [h n (by omega), tw_congr (n := n) (fun j hj => h j (by omega))]
theorem words_ext {f g : Nat → Nat} (hf : ∀ m, U64 f m) (hg : ∀ m, U64 g m) (h : ∀ i, bt f i = bt g i) : f = g :=
  funext fun k => bt_ext (hf (k + 1)) (hg (k + 1)) (fun i _ => h i) k (by omega)
theorem tw_put {T : Nat → Bool} {n j : Nat} (hj : j < n) : wt (tw T n) j = tw (fun x => T x || decide (x = j)) n :=
  words_ext (fun m => wt_u64 (tw_u64 T n m) j) (fun m => tw_u64 _ n m) fun i => by
    rw [bt_wt, bt_tw, bt_tw]
    by_cases e : i = j
    · subst e; rw [decide_eq_true hj]; simp
    · rw [decide_eq_false e]; simp
/- the table with one pair more -/
def tset (S : Nat → Nat → Bool) (i j : Nat) : Nat → Nat → Bool := fun a b => S a b || (decide (a = i) && decide (b = j))
structure RAt (w : World) (base n m c : Nat) (A : Option Addr) (G : Nat → Nat) (S : Nat → Nat → Bool) : Prop where
  s : BSet w base (.slice A n c) n n m G (fun i => tw (S i) n)
variable {w w' : World} {base n m c : Nat} {A : Option Addr} {G : Nat → Nat} {S : Nat → Nat → Bool}
theorem RAt.below (h : RAt w base n m c A G S) (b : Below w.heap.size w w') : RAt w' base n m c A G S := ⟨h.s.below b⟩
theorem RAt.congr {S' : Nat → Nat → Bool} (h : RAt w base n m c A G S) (e : ∀ i, i < n → ∀ j, j < n → S i j = S' i j) : RAt w base n m c A G S' :=
  ⟨h.s.congr fun i hi => tw_congr (e i hi)⟩
theorem RAt.rel (h : RAt w base n m c A G S) (hn : n ≤ 512) (hm : m = (n + 63) / 64) : ∃ R, Rel w A n R ∧ Fresh base A n R ∧ VRel n R ∧ ∀ i, i < n → ∀ j, j < n → mat R i j = S i j := h.s.rel hn hm
theorem rat_less (h : RAt w base n m c A G S) (hn : n ≤ 512) (hm : m = (n + 63) / 64) {i j : Nat} (hi : i < n) (hj : j < n) :
    Calls Tryd.prog 22 #[.agg #[.slice A n c], .int .i64 i, .int .i64 j] w fun e w' => e = .returned (.bool (S i j)) ∧ Below w.heap.size w w' := by
  obtain ⟨R, h1, _, h2, h3⟩ := h.rel hn hm
  rw [← h3 i hi j hj]
  exact rless_any A n c i j R w h1 h2 hi hj
theorem rat_put (h : RAt w base n m c A G S) (hd : ∀ a b, a < n → b < n → a ≠ b → G a ≠ G b) (hn : n ≤ 512) (hm : m = (n + 63) / 64) {i j : Nat} (hi : i < n) (hj : j < n) (hb : base ≤ w.heap.size) :
    Calls Tryd.prog 59 #[.agg #[.slice A n c], .int .i64 i, .int .i64 j] w fun e w' => e = .returned (.tuple #[]) ∧ RAt w' base n m c A G (tset S i j) ∧ Below base w w' ∧ ∀ b, b < w.heap.size → b ≠ G i → w'.heap[b]? = w.heap[b]? := by
  refine (put_any A n c m i j base G (fun i => tw (S i) n) w h.s hd hi hj hn hm (tw_u64 _ _ _) hb).mono ?_
  rintro e w1 ⟨rfl, h1, h2, h3⟩
  refine ⟨rfl, ⟨h1.congr fun k _ => ?_⟩, h2, h3⟩
  by_cases e : k = i
  · subst e
    simp only [if_true]
    rw [tw_put hj]
    exact tw_congr fun x _ => by unfold tset; simp
  · simp only [if_neg e]
    exact tw_congr fun x _ => by unfold tset; rw [decide_eq_false e]; simp
end Go.Proofs.YtakjdihhbndcnaaDoor
