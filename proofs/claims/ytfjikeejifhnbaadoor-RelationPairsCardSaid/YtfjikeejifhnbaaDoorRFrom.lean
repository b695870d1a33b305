/- The reference's From: the relation of a table. -/
import Derived.Test.YtfjikeejifhnbaaDoorRTab
namespace Go.Proofs.YtfjikeejifhnbaaDoor
open Go.RowKit
/- the words of the first D truths -/
def tw (T : Nat → Bool) : Nat → Nat → Nat
  | 0 => fun _ => 0
  | D + 1 => if T D = true then wt (tw T D) D else tw T D
theorem tw_u64 (T : Nat → Bool) (D m : Nat) : U64 (tw T D) m := by
  induction D with
  | zero => intro k _; show 0 < _; omega
  | succ D ih =>
    show U64 (if T D = true then wt (tw T D) D else tw T D) m
    split
    · exact wt_u64 ih _
    · exact ih
theorem bt_tw (T : Nat → Bool) : ∀ (D j : Nat), bt (tw T D) j = (decide (j < D) && T j)
  | 0, j => by simp [bt, tw]
  | D + 1, j => by
    have ih := bt_tw T D j
    show bt (if T D = true then wt (tw T D) D else tw T D) j = _
    by_cases h : T D = true
    · rw [if_pos h, bt_wt, ih]
      by_cases e : j = D
      · subst e; simp [h]
      · have h1 : decide (j < D + 1) = decide (j < D) := by rw [decide_eq_decide]; omega
        rw [h1, decide_eq_false e]; simp
    · rw [if_neg h, ih]
      by_cases e : j = D
      · subst e; simp [h]
      · have h1 : decide (j < D + 1) = decide (j < D) := by rw [decide_eq_decide]; omega
        rw [h1]
theorem tw_lt (T : Nat → Bool) (D : Nat) : tw T D (D / 64) < 2 ^ (D % 64) := by
  refine Nat.lt_pow_two_of_testBit _ fun v hv => ?_
  by_cases h : v < 64
  · have := bt_tw T D (64 * (D / 64) + v)
    rw [bt_at _ _ _ h, decide_eq_false (by omega)] at this
    simpa using this
  · have h1 : tw T D (D / 64) < 2 ^ v := by
      have h2 := tw_u64 T D (D / 64 + 1) (D / 64) (by omega)
      have h3 : (2 : Nat) ^ 64 ≤ 2 ^ v := Nat.pow_le_pow_right (by decide) (by omega)
      have h4 : (2 : Nat) ^ 64 = 18446744073709551616 := rfl
      omega
    exact Nat.testBit_lt_two_pow h1
theorem tw_add (T : Nat → Bool) (D : Nat) : tw T D (D / 64) + 2 ^ (D % 64) = tw T D (D / 64) ||| 2 ^ (D % 64) := by
  have := Nat.two_pow_add_eq_or_of_lt (tw_lt T D) 1
  rw [Nat.mul_one] at this
  rw [Nat.add_comm, this, Nat.or_comm]
theorem tw_vld (T : Nat → Bool) {n m : Nat} (hn : n ≤ 512) (hm : m = (n + 63) / 64) : Vld (n : Int) m (tw T n) :=
  ⟨by omega, by omega, by simpa using hm, fun i hi _ => by rw [bt_tw, decide_eq_false (by simp at hi; omega)]; rfl⟩
/- k sets, one behind the other, their words each in a block of its own -/
def svals (n m : Nat) (G : Nat → Nat) : Nat → List Value
  | 0 => []
  | k + 1 => svals n m G k ++ [.int .i64 (n : Nat), .slice (some ⟨G k, 0, none⟩) m m]
theorem svals_len (n m : Nat) (G : Nat → Nat) : ∀ k, (svals n m G k).length = k * 2
  | 0 => rfl
  | k + 1 => by unfold svals; rw [List.length_append, svals_len n m G k]; simp; omega
theorem svals_get (n m : Nat) (G : Nat → Nat) {i : Nat} : ∀ {k : Nat}, i < k → (svals n m G k)[i * 2]? = some (.int .i64 (n : Nat)) ∧ (svals n m G k)[i * 2 + 1]? = some (.slice (some ⟨G i, 0, none⟩) m m)
  | 0, h => absurd h (Nat.not_lt_zero _)
  | k + 1, h => by
    unfold svals
    have hl := svals_len n m G k
    by_cases e : i = k
    · subst e
      rw [List.getElem?_append_right (by omega), List.getElem?_append_right (by omega), hl, Nat.sub_self, show i * 2 + 1 - i * 2 = 1 by omega]
      exact ⟨rfl, rfl⟩
    · rw [List.getElem?_append_left (by omega), List.getElem?_append_left (by omega)]
      exact svals_get n m G (by omega)
theorem svals_congr (n m : Nat) {G H : Nat → Nat} : ∀ k, (∀ i, i < k → G i = H i) → svals n m G k = svals n m H k
  | 0, _ => rfl
  | k + 1, h => by unfold svals; rw [svals_congr n m k (fun i hi => h i (by omega)), h k (by omega)]
structure BSet (w : World) (base : Nat) (v : Value) (k n m : Nat) (G : Nat → Nat) (F : Nat → Nat → Nat) : Prop where
  o : w.ownsRow base 63 2 v k (svals n m G k)
  r : ∀ i, i < k → w.rowIs (G i) 69 m (fun x => .int .u64 (F i x : Nat))
  b : ∀ i, i < k → base ≤ G i
theorem BSet.below {w w' : World} {base k n m : Nat} {v : Value} {G : Nat → Nat} {F : Nat → Nat → Nat} (h : BSet w base v k n m G F) (b : Below w.heap.size w w') : BSet w' base v k n m G F := ⟨own_below h.o b, fun i hi => row_below (h.r i hi) b, h.b⟩
theorem own_ne_row {w : World} {base e size n m g t : Nat} {v : Value} {xs : List Value} {f : Nat → Value} (h : w.ownsRow base e size v n xs) (hr : w.rowIs g t m f) (hne : e ≠ t) : v.ownBlock ≠ some g := by
  rcases h.2 with ⟨rfl, _⟩ | ⟨g', cap, cur, rfl, _, hg, _⟩
  · intro e; cases e
  · intro e
    injection e with e
    replace e : g' = g := e
    subst e
    obtain ⟨cs, h1, _⟩ := hr
    rw [hg] at h1
    injection h1 with h1
    injection h1 with _ h2 _
    exact hne h2
theorem row_grown {w w' : World} {base e size n m g t : Nat} {v : Value} {xs : List Value} {f : Nat → Value} (hr : w.rowIs g t m f) (h : w.ownsRow base e size v n xs) (hne : e ≠ t) (hg : w.grownBy w' v.ownBlock) : w'.rowIs g t m f :=
  hr.of_block (hg.block g hr.lt (fun e => own_ne_row h hr hne e.symm))
theorem BSet.far {w : World} {base k n m g j l : Nat} {v : Value} {G : Nat → Nat} {F : Nat → Nat → Nat} {f : Nat → Value} (h : BSet w base v k n m G F) (hr : w.rowIs g 69 l f) (hne : ∀ i, i < k → G i ≠ g) (u : Value) : BSet (w.setCell ⟨g, j, none⟩ u) base v k n m G F :=
  ⟨h.o.kept (grown_setCell w _ _) (Or.inr (own_ne_row h.o hr (by decide))), fun i hi => (h.r i hi).setOther (a := ⟨g, j, none⟩) (hne i hi) u, h.b⟩
theorem BSet.farp {w : World} {base k n m : Nat} {v : Value} {G : Nat → Nat} {F : Nat → Nat → Nat} (h : BSet w base v k n m G F) {q : Addr} (hq : q.block < base) (u : Value) : BSet (w.setCell q u) base v k n m G F :=
  ⟨h.o.kept (grown_setCell w _ _) (Or.inr (fun e => by have := (h.o.lt _ e).1; omega)), fun i hi => (h.r i hi).setOther (a := q) (by have := h.b i hi; omega) u, h.b⟩
theorem relAt_put2 {w : World} {p : Nat} {A A' : Option Addr} {n n' c c' : Nat} (h : RelAt w p A n c) : RelAt (w.setCell ⟨p, 0, none⟩ (.slice A' n' c')) p A' n' c' := by
  have := heap_setCell_same w p 0 _ _ (.slice A' n' c') h
  unfold RelAt
  simpa using this
theorem BSet.drew {w : World} {base k n m : Nat} {v : Value} {G : Nat → Nat} {F : Nat → Nat → Nat} (h : BSet w base v k n m G F) : BSet w.drew base v k n m G F := ⟨h.o, h.r, h.b⟩
theorem append_bset {ops : Array Oper} {rest : List Oper} {o : Oper} {a : Act} {Q : Exit → Act → World → Prop} (hgd : o.guard = none) (s x : Operand)
    (ho : o.op = .call { callee := .builtin .append, args := #[s, x], argTypes := #[22, 22] }) (base : Nat) (v : Value) (k n m g : Nat) (G : Nat → Nat) (F : Nat → Nat → Nat) (f : Nat → Nat) (w : World) (hs : a.eval s = v)
    (ht : BSet w base v k n m G F) (hrow : w.rowIs g 69 m (fun x => .int .u64 (f x : Nat))) (hgb : base ≤ g) (hx : a.eval x = .slice (some ⟨w.heap.size, 0, none⟩) 1 1) (hk : k ≤ 1000000) (hbase : base ≤ w.heap.size)
    (h : ∀ g' cap w', BSet w' base (.slice (some ⟨g', 0, none⟩) (k + 1) cap) (k + 1) n m (fun i => if i = k then g else G i) (fun i => if i = k then f else F i) → (w.alloc (.cells #[.int .i64 (n : Int), .slice (some ⟨g, 0, none⟩) m m] 63)).grownBy w' v.ownBlock → (w.alloc (.cells #[.int .i64 (n : Int), .slice (some ⟨g, 0, none⟩) m m] 63)).ownsRow base 63 2 v k (svals n m G k) → wpList Tryd.prog ops Q rest (a.put o.dst (.slice (some ⟨g', 0, none⟩) (k + 1) cap)) w') :
    wpList Tryd.prog ops Q (o :: rest) a (w.alloc (.cells #[.int .i64 (n : Int), .slice (some ⟨g, 0, none⟩) m m] 63)) := by
  have bA : Below w.heap.size w (w.alloc (.cells #[.int .i64 (n : Int), .slice (some ⟨g, 0, none⟩) m m] 63)) := (Below.refl _ _).alloc (Nat.le_refl _) _
  have hA := ht.below bA
  have hrA := row_below hrow bA
  refine append_one_at hgd s x 22 63 ho 2 32 _ Tryd.underlying22 Tryd.info63 rfl (by decide) (by decide) base v k (svals n m G k) hs hA.o w.heap.size #[.int .i64 (n : Int), .slice (some ⟨g, 0, none⟩) m m] hx (heap_alloc_new w _) rfl ?_ hk (by simp; omega) (fun g' cap w' h1 h2 _ _ => h g' cap w' ⟨?_, fun i hi => ?_, fun i hi => ?_⟩ h2 hA.o)
  · intro u hu
    simp at hu
    rcases hu with rfl | rfl <;> rfl
  · have e : svals n m (fun i => if i = k then g else G i) (k + 1) = svals n m G k ++ [.int .i64 (n : Nat), .slice (some ⟨g, 0, none⟩) m m] := by
      show svals n m (fun i => if i = k then g else G i) k ++ _ = _
      rw [svals_congr n m (G := fun i => if i = k then g else G i) (H := G) k (fun i hi => by rw [if_neg (by omega)])]
      simp
    rw [e]; exact h1
  · by_cases e : i = k
    · subst e
      rw [if_pos rfl]
      simp only [if_true]
      exact row_grown hrA hA.o (by decide) h2
    · rw [if_neg e]
      simp only [if_neg e]
      exact row_grown (hA.r i (by omega)) hA.o (by decide) h2
  · by_cases e : i = k
    · rw [if_pos e]; exact hgb
    · rw [if_neg e]; exact ht.b i (by omega)
def FromOk (w : World) (n : Nat) (T : Nat → Nat → Bool) (e : Ending) (w' : World) : Prop :=
  ∃ A c R, e = .returned (.agg #[.slice A n c]) ∧ Rel w' A n R ∧ VRel n R ∧ (∀ i, i < n → ∀ j, j < n → mat R i j = T i j) ∧ Below w.heap.size w w'
def FromNew (w : World) (n : Nat) (T : Nat → Nat → Bool) (e : Ending) (w' : World) : Prop :=
  ∃ A c R, e = .returned (.agg #[.slice A n c]) ∧ Rel w' A n R ∧ Fresh w.heap.size A n R ∧ VRel n R ∧ (∀ i, i < n → ∀ j, j < n → mat R i j = T i j) ∧ Below w.heap.size w w'
theorem BSet.rel {w : World} {base n m c : Nat} {A : Option Addr} {G : Nat → Nat} {T : Nat → Nat → Bool} (h : BSet w base (.slice A n c) n n m G (fun i => tw (T i) n)) (hn : n ≤ 512) (hm : m = (n + 63) / 64) :
    ∃ R, Rel w A n R ∧ Fresh base A n R ∧ VRel n R ∧ ∀ i, i < n → ∀ j, j < n → mat R i j = T i j := by
  refine ⟨fun i => ⟨n, some ⟨G i, 0, none⟩, m, m, tw (T i) n⟩, fun h0 => ?_, ⟨fun a ha => (h.o.lt a.block (by rw [ha]; rfl)).1, fun k hk a ha => by injection ha with ha; rw [← ha]; exact h.b k hk⟩, ⟨hn, fun i _ => ⟨rfl, tw_vld (T i) hn hm⟩⟩, fun i _ j hj => ?_⟩
  · obtain ⟨g, cap, hv, _, hlt⟩ := h.o.form h0
    injection hv with e1 _ e2
    subst e1 e2
    refine ⟨g, 0, rfl, hlt, fun k hk => ?_⟩
    obtain ⟨g1, g2⟩ := svals_get n m G hk
    rw [Nat.zero_add]
    exact ⟨(h.o.cellAt (k * 2) (by omega)).trans g1, (h.o.cellAt (k * 2 + 1) (by omega)).trans g2, row_wds (h.r k hk) (tw_u64 _ _ _)⟩
  · show bt (tw (T i) n) j = _
    rw [bt_tw, decide_eq_true hj]; rfl
set_option maxRecDepth 100000 in
set_option maxHeartbeats 4000000 in
theorem from_new (v0 : Value) (n : Nat) (B0 C0 : Nat → Nat) (T : Nat → Nat → Bool) (w : World) (h : BTab w 0 v0 n n B0 C0 T) (hn : n ≤ 512) :
    Calls Tryd.prog 44 #[v0] w (FromNew w n T) := by
  obtain ⟨A, c, rfl⟩ := h.form
  have HH := Lib.hid h; clear h
  have hmk := make_words ((n + 63) / 64) (by omega)
  have hmq : (((n : Int) + 63)).tdiv 64 = (((n + 63) / 64 : Nat) : Int) := by rw [Int.tdiv_eq_ediv_of_nonneg (by omega)]; simp
  have hmq2 : (((n : Int) + 63)) / 64 = (((n + 63) / 64 : Nat) : Int) := by simp
  generalize hM : (n + 63) / 64 = m at *
  have HM := Lib.hid hM
  have hm9 : m ≤ 9 := by omega
  clear hM
  have r0 := (relAt_new w none 0 0).alloc (.cells #[.slice none 0 0] 24)
  have r1 := relAt_new (w.alloc (.cells #[.slice none 0 0] 24)) none 0 0
  have e1 : (w.alloc (.cells #[.slice none 0 0] 24)).heap.size = w.heap.size + 1 := by simp
  rw [e1] at r1
  have b0 : Below w.heap.size w ((w.alloc (.cells #[.slice none 0 0] 24)).alloc (.cells #[.slice none 0 0] 24)) := ((Below.refl _ _).alloc (Nat.le_refl _) _).alloc (by simp) _
  clear e1
  go_enter Tryd.func44, Tryd.ntmps44
  go_wp2_with fail
  go_loopw [5, 6, 7] (fun i _ _ wr => ∃ (K : Nat) (Av : Option Addr) (cv : Nat) (G : Nat → Nat), i = .int .i64 K ∧ K ≤ n ∧ RelAt wr (w.heap.size + 1) Av K cv ∧ BSet wr (w.heap.size + 2) (.slice Av K cv) K n m G (fun i => tw (T i) n) ∧ RelAt wr w.heap.size none 0 0 ∧ Below w.heap.size w wr) (fun i _ _ _ => n - (intOf i).toNat)
  case atStart => exact ⟨0, none, 0, fun _ => 0, rfl, by omega, r1, ⟨World.ownsRow_nil _ _ _ _, fun i hi => absurd hi (Nat.not_lt_zero _), fun i hi => absurd hi (Nat.not_lt_zero _)⟩, r0, b0⟩
  case round =>
    clear r0 r1 b0
    obtain ⟨K, Av, cv, G, rfl, hK, hr1, hBS, hr0, hB⟩ := hrel
    by_cases hlt : K < n
    · have bA : Below wr.heap.size wr ((wr.alloc (.cells (madeCells #[.int .u64 0] m) 69)).alloc (.cells #[.int .i64 n, .slice (some ⟨wr.heap.size, 0, none⟩) m m] 63)) := ((Below.refl _ _).alloc (Nat.le_refl _) _).alloc (by simp) _
      have hrow := (World.rowIs_made wr (.int .u64 0) m 69).alloc (.cells #[.int .i64 n, .slice (some ⟨wr.heap.size, 0, none⟩) m m] 63)
      replace hrow := hrow.congr (g := fun x => .int .u64 (tw (T K) 0 x : Nat)) (fun x _ => rfl)
      have hset := setAt_new (wr.alloc (.cells (madeCells #[.int .u64 0] m) 69)) n (some ⟨wr.heap.size, 0, none⟩) m m
      have es : (wr.alloc (.cells (madeCells #[.int .u64 0] m) 69)).heap.size = wr.heap.size + 1 := by simp
      rw [es] at hset
      have hBA := hBS.below bA
      have hrA1 := hr1.below bA
      have hrA0 := hr0.below bA
      have BA := below_next hB bA
      have hbw : w.heap.size + 2 ≤ wr.heap.size := by have := hr1.lt; omega
      have hfresh : Hid (∀ i, i < K → G i ≠ wr.heap.size) := fun i hi e => by have := (hBS.r i hi).lt; omega
      go_wp2_with fail
      clear hBS hr1 hr0 hB bA es
      generalize wr.heap.size = g at *
      generalize (wr.alloc (.cells (madeCells #[.int .u64 0] m) 69)).alloc (.cells #[.int .i64 n, .slice (some ⟨g, 0, none⟩) m m] 63) = W1 at *
      go_loopw [7] (fun j w2 => ∃ D : Nat, D ≤ n ∧ j = .int .i64 D ∧ BSet w2 (w.heap.size + 2) (.slice Av K cv) K n m G (fun i => tw (T i) n) ∧ w2.rowIs g 69 m (fun x => .int .u64 (tw (T K) D x : Nat)) ∧ SetAt w2 (g + 1) n (some ⟨g, 0, none⟩) m m ∧ RelAt w2 (w.heap.size + 1) Av K cv ∧ RelAt w2 w.heap.size none 0 0 ∧ Below w.heap.size w w2) (fun j _ => n - (intOf j).toNat)
      case atStart => exact ⟨0, by omega, rfl, hBA, hrow, hset, hrA1, hrA0, BA⟩
      case round =>
        clear hBA hrow hset hrA1 hrA0 BA
        obtain ⟨D, hD, rfl, hBS, hrow, hset, hr1, hr0, hB⟩ := hrel
        by_cases hlt2 : D < n
        · have HB := HH.out.below hB
          obtain ⟨gT, rfl, _, y0⟩ := HB.cell hlt
          have y1 := (HB.r K hlt).cell hlt2
          clear HB
          by_cases hT : T K D = true
          · rw [hT] at y1
            have hDm : D / 64 < m := by have := HM.out; omega
            have s1 := hset.c1
            have z0 := hrow.cell hDm
            have z1 := hrow.frozen (D / 64)
            have hq0 : (0 : Int) ≤ (D : Int) / 64 := by omega
            have hq1 : (D : Int) / 64 < (m : Int) := by omega
            have hq2 : ((D : Int) / 64).toNat = D / 64 := by omega
            have hq : (D : Int).tdiv 64 = (D : Int) / 64 := by rw [Int.tdiv_eq_ediv_of_nonneg (by omega)]
            have hs1 := shl_one D
            have hstep : tw (T K) (D + 1) (D / 64) = tw (T K) D (D / 64) ||| 2 ^ (D % 64) := by
              show (if T K D = true then wt (tw (T K) D) D else tw (T K) D) (D / 64) = _
              rw [if_pos hT]; unfold wt; rw [if_pos rfl]
            have hu := tw_u64 (T K) (D + 1) (D / 64 + 1) (D / 64) (by omega)
            have hadd := tw_add (T K) D
            rw [← hstep] at hadd
            have hs2 : IntKind.u64.wrap (((tw (T K) D (D / 64) : Nat) : Int) + ((2 ^ (D % 64) : Nat) : Int)) = ((tw (T K) (D + 1) (D / 64) : Nat) : Int) := by
              rw [← Int.natCast_add, hadd]
              exact IntWalk.u64_in _ (by omega)
            have hs3 : Hid (IntKind.u64.wrap (((tw (T K) D (D / 64) : Nat) : Int) + (2 : Int) ^ (D % 64)) = ((tw (T K) (D + 1) (D / 64) : Nat) : Int)) := by
              show _ = _
              rw [← hs2]; congr 2
            have HTT := Lib.hid hT
            clear hstep hu hadd hT hs2
            go_wp2_with fail
            go_region
            go_wp2_with fail
            go_roundw
            case rel =>
              refine ⟨D + 1, by omega, by go_num, (hBS.far hrow hfresh.out _).drew, ((hrow.set (D / 64) _).congr (fun x _ => ?_)).drew, hset.far (by show g + 1 ≠ g; omega) _, hr1.far (by show w.heap.size + 1 ≠ g; omega) _, hr0.far (by show w.heap.size ≠ g; omega) _, (hB.setCell (p := ⟨g, D / 64, none⟩) (by show w.heap.size ≤ g; omega) _).drew⟩
              by_cases e : x = D / 64
              · rw [if_pos e, e, hs3.out]
              · rw [if_neg e]
                have : tw (T K) (D + 1) x = tw (T K) D x := by
                  show (if T K D = true then wt (tw (T K) D) D else tw (T K) D) x = _
                  rw [if_pos HTT.out]; unfold wt; rw [if_neg e]
                rw [this]
            case measure => simp [intOf]; omega
          · rw [show T K D = false by simpa using hT] at y1
            have hsame : tw (T K) (D + 1) = tw (T K) D := if_neg hT
            rw [← hsame] at hrow
            clear hT hsame
            go_wp2_with fail
            go_roundw
            case rel => exact ⟨D + 1, by omega, by go_num, hBS, hrow, hset, hr1, hr0, hB⟩
            case measure => simp [intOf]; omega
        · obtain rfl : D = n := by omega
          have hbase : w.heap.size + 2 ≤ wr.heap.size := by have := hrow.lt; omega
          have o0 := hr1.c0
          have s0 := hset.c0
          have s1 := hset.c1
          go_wp2_with (at_builtin; refine append_bset rfl (.tmp 50) (.tmp 52) rfl (w.heap.size + 2) (.slice Av K cv) K D m g G (fun i => tw (T i) D) (tw (T K) D) wr rfl hBS hrow hbw rfl (by omega) hbase ?_)
          intro g' cap w5 hBS5 hg5 hownA
          have bP : Below wr.heap.size wr (wr.alloc (.cells #[.int .i64 (D : Int), .slice (some ⟨g, 0, none⟩) m m] 63)) := (Below.refl _ _).alloc (Nat.le_refl _) _
          have B5 := grown_below2 (below_next hB bP) hownA (by omega) hg5
          have hr5 : RelAt w5 (w.heap.size + 1) Av K cv := (hg5.block _ (by have := (hr1.below bP).lt; exact this) (fun e => by have := (hownA.lt _ e.symm).1; omega)).trans (hr1.below bP)
          have hr6 : RelAt w5 w.heap.size none 0 0 := (hg5.block _ (by have := (hr0.below bP).lt; exact this) (fun e => by have := (hownA.lt _ e.symm).1; omega)).trans (hr0.below bP)
          have o5 := hr5.c0
          have f5 := hr5.free 0
          have hF : (fun i => if i = K then tw (T K) D else tw (T i) D) = fun i => tw (T i) D := funext fun i => by
            by_cases e : i = K
            · rw [if_pos e, e]
            · rw [if_neg e]
          rw [hF] at hBS5
          clear o0 s0 s1 hF
          go_wp2_with fail
          go_roundw
          case rel => exact ⟨K + 1, _, _, _, by go_num, by omega, relAt_put2 hr5, hBS5.farp (q := ⟨w.heap.size + 1, 0, none⟩) (by show w.heap.size + 1 < w.heap.size + 2; omega) _, hr6.far (by show w.heap.size ≠ w.heap.size + 1; omega) _, B5.setCell (p := ⟨w.heap.size + 1, 0, none⟩) (by show w.heap.size ≤ w.heap.size + 1; omega) _⟩
          case measure => simp [intOf]; omega
    · obtain rfl : K = n := by omega
      have o0 := hr1.c0
      have r0 := hr0.c0
      have f0 := hr0.free 0
      obtain ⟨R, h1, h4, h2, h3⟩ := (hBS.farp (q := ⟨w.heap.size, 0, none⟩) (by show w.heap.size < w.heap.size + 2; omega) (.slice Av K cv)).rel hn HM.out.symm
      have H1 := Lib.hid h1
      have H2 := Lib.hid h2
      have H3 := Lib.hid h3
      have H4 := Lib.hid (h4.mono (show w.heap.size ≤ w.heap.size + 2 by omega))
      clear h1 h2 h3 h4
      go_wp2_with fail
      refine bodyPost_ret (v := .agg #[.slice Av K cv]) (by simp [results, Tryd.results44, go_sem, r0]) rfl ?_
      exact ⟨Av, cv, R, rfl, H1.out, H4.out, H2.out, H3.out, hB.setCell (p := ⟨w.heap.size, 0, none⟩) (Nat.le_refl _) _⟩
theorem from_any (v0 : Value) (n : Nat) (B0 C0 : Nat → Nat) (T : Nat → Nat → Bool) (w : World) (h : BTab w 0 v0 n n B0 C0 T) (hn : n ≤ 512) :
    Calls Tryd.prog 44 #[v0] w (FromOk w n T) :=
  (from_new v0 n B0 C0 T w h hn).mono fun _ _ ⟨A, c, R, h1, h2, _, h4, h5, h6⟩ => ⟨A, c, R, h1, h2, h4, h5, h6⟩
end Go.Proofs.YtfjikeejifhnbaaDoor
