/- The reference's Empty. -/
import Derived.Test.YtakjdihhbndcnaaDoorPPut
import Derived.Test.YtakjdihhbndcnaaDoorRfB
import Derived.Test.YtakjdihhbndcnaaDoorRPair
import Derived.Deep.RegionLaw
import Derived.Deep.AppendLies
namespace Go.Proofs.YtakjdihhbndcnaaDoor
open Go.RowKit Go.Sort
theorem BSet.mono {w : World} {base base' k n m : Nat} {v : Value} {G : Nat → Nat} {F : Nat → Nat → Nat} (h : BSet w base v k n m G F) (hb : base' ≤ base) : BSet w base' v k n m G F := ⟨own_mono h.o hb, h.r, fun i hi => Nat.le_trans hb (h.b i hi)⟩
theorem step_append_bset {ops : Array Oper} {o : Oper} {a : Act} {K : Act → World → Prop} {Q : Exit → Act → World → Prop} {Ee : Prop} (hgd : o.guard = none) (s x : Operand)
    (ho : o.op = .call { callee := .builtin .append, args := #[s, x], argTypes := #[22, 22] }) (base : Nat) (v : Value) (k n m g : Nat) (G : Nat → Nat) (F : Nat → Nat → Nat) (f : Nat → Nat) (w : World) (hs : a.eval s = v)
    (ht : BSet w base v k n m G F) (hrow : w.rowIs g 59 m (fun x => .int .u64 (f x : Nat))) (hgb : base ≤ g) (hx : a.eval x = .slice (some ⟨w.heap.size, 0, none⟩) 1 1) (hk : k ≤ 1000000) (hbase : base ≤ w.heap.size)
    (h : ∀ g' cap w', BSet w' base (.slice (some ⟨g', 0, none⟩) (k + 1) cap) (k + 1) n m (fun i => if i = k then g else G i) (fun i => if i = k then f else F i) → (w.alloc (.cells #[.int .i64 (n : Int), .slice (some ⟨g, 0, none⟩) m m] 37)).grownBy w' v.ownBlock → (w.alloc (.cells #[.int .i64 (n : Int), .slice (some ⟨g, 0, none⟩) m m] 37)).ownsRow base 37 2 v k (svals n m G k) → K (a.put o.dst (.slice (some ⟨g', 0, none⟩) (k + 1) cap)) w') :
    if Region.wanted o (yielded ops a.tmps) = true then Oper.wp Tryd.prog o a (w.alloc (.cells #[.int .i64 (n : Int), .slice (some ⟨g, 0, none⟩) m m] 37)) K Q else Ee := by
  obtain ⟨i0, hi, hz, hsz', hb'⟩ := info_parts Tryd.info37
  have bA : Below w.heap.size w (w.alloc (.cells #[.int .i64 (n : Int), .slice (some ⟨g, 0, none⟩) m m] 37)) := (Below.refl _ _).alloc (Nat.le_refl _) _
  have hA := ht.below bA
  have hrA := row_below hrow bA
  have hB : (w.alloc (.cells #[.int .i64 (n : Int), .slice (some ⟨g, 0, none⟩) m m] 37)).heap[w.heap.size]? = some (.cells #[.int .i64 (n : Int), .slice (some ⟨g, 0, none⟩) m m] 37 (0, 0)) := heap_alloc_new w _
  refine step_append_lies _ hgd s x 22 ho base 37 i0 _ 2 32 Tryd.underlying22 hi hz hsz' hb' rfl (by decide) v k (svals n m G k) hs hA.o ⟨w.heap.size, 0, none⟩ 1 1 [.int .i64 (n : Int), .slice (some ⟨g, 0, none⟩) m m] hx (by simp) ?_ ?_ (by decide) (by unfold maxLen; omega) (by omega) (by simp; omega) (w.alloc (.cells #[.int .i64 (n : Int), .slice (some ⟨g, 0, none⟩) m m] 37)).heap.size rfl (fun g' cap w' h1 h2 _ _ => h g' cap w' ⟨?_, fun i hi => ?_, fun i hi => ?_⟩ h2 hA.o)
  · intro j u hu'
    have hadd : (⟨w.heap.size, 0, none⟩ : Addr).add j = ⟨w.heap.size, j, none⟩ := by unfold Addr.add; split <;> simp_all
    rw [hadd, cell_of_row _ _ j _ _ _ hB]
    simpa using hu'
  · intro u hu
    simp at hu
    rcases hu with rfl | rfl <;> rfl
  · have e : svals n m (fun i => if i = k then g else G i) (k + 1) = svals n m G k ++ [.int .i64 (n : Nat), .slice (some ⟨g, 0, none⟩) m m] := by
      show svals n m (fun i => if i = k then g else G i) k ++ _ = _
      rw [svals_congr n m (G := fun i => if i = k then g else G i) (H := G) k (fun i hi => by rw [if_neg (by omega)])]
      simp
    rw [e]; exact h1
  · by_cases e : i = k
    · subst e
      rw [if_pos rfl]
      simp only [if_true]
      exact row_grown hrA hA.o (by decide) h2
    · rw [if_neg e]
      simp only [if_neg e]
      exact row_grown (hA.r i (by omega)) hA.o (by decide) h2
  · by_cases e : i = k
    · rw [if_pos e]; exact hgb
    · rw [if_neg e]; exact ht.b i (by omega)
/- k sets without members, each in blocks of its own -/
def EmptyEnd (w : World) (n m : Nat) (e : Ending) (w' : World) : Prop :=
  ∃ A c G, e = .returned (.agg #[.slice A n c]) ∧ BSet w' w.heap.size (.slice A n c) n n m G (fun _ _ => 0) ∧ (∀ a b, a < n → b < n → a ≠ b → G a ≠ G b) ∧ Below w.heap.size w w'
set_option maxRecDepth 100000 in
set_option maxHeartbeats 4000000 in
theorem empty_any (n : Nat) (w : World) (hn : n ≤ 512) : Calls Tryd.prog 57 #[.int .i64 n] w (EmptyEnd w n ((n + 63) / 64)) := by
  have r0 := (relAt_new w none 0 0).alloc (.cells #[.slice none 0 0] 24)
  have r1 := relAt_new (w.alloc (.cells #[.slice none 0 0] 24)) none 0 0
  have e1 : (w.alloc (.cells #[.slice none 0 0] 24)).heap.size = w.heap.size + 1 := by simp
  rw [e1] at r1
  have b0 : Below w.heap.size w ((w.alloc (.cells #[.slice none 0 0] 24)).alloc (.cells #[.slice none 0 0] 24)) := ((Below.refl _ _).alloc (Nat.le_refl _) _).alloc (by simp) _
  clear e1
  go_enter Tryd.func57, Tryd.ntmps57
  go_wp2_with fail
  go_loopw [4] (fun i wr => ∃ (K : Nat) (Av : Option Addr) (cv : Nat) (G : Nat → Nat), i = .int .i64 K ∧ K ≤ n ∧ RelAt wr (w.heap.size + 1) Av K cv ∧ BSet wr (w.heap.size + 2) (.slice Av K cv) K n ((n + 63) / 64) G (fun _ _ => 0) ∧ Hid (∀ a b, a < K → b < K → a ≠ b → G a ≠ G b) ∧ RelAt wr w.heap.size none 0 0 ∧ Below w.heap.size w wr) (fun i _ => n - (intOf i).toNat)
  case atStart => exact ⟨0, none, 0, fun _ => 0, rfl, by omega, r1, ⟨World.ownsRow_nil _ _ _ _, fun i hi => absurd hi (Nat.not_lt_zero _), fun i hi => absurd hi (Nat.not_lt_zero _)⟩, Lib.hid (fun _ _ h => absurd h (Nat.not_lt_zero _)), r0, b0⟩
  case round =>
    clear r0 r1 b0
    obtain ⟨K, Av, cv, G, rfl, hK, hr1, hBS, hD, hr0, hB⟩ := hrel
    by_cases hlt : K < n
    · have c0 := hr1.c0
      have f0 := hr1.free 0
      have HR1 := Lib.hid hr1
      have HR0 := Lib.hid hr0
      have HBS := Lib.hid hBS
      have HB := Lib.hid hB
      have hbw : w.heap.size + 2 ≤ wr.heap.size := by have := hr1.lt; omega
      clear hr1 hr0 hBS hB
      go_wp2_with fail
      go_region_law (first
        | (refine step_append_bset rfl (.tmp 12) (.tmp 15) rfl (w.heap.size + 2) (.slice Av K cv) K n ((n + 63) / 64) g G (fun _ _ => 0) (fun _ => 0) _ (by simp [Act.eval]) (HBS.out.below bx) hrow (by have : wr.drew.heap.size = wr.heap.size := rfl; omega) (by simp [Act.eval]) (by omega) (by have := bx.size; omega) ?_; intro g9 c9 w9 hBS9 hg9 hown9; have hr9 : RelAt w9 (w.heap.size + 1) Av K cv := (hg9.block _ (((HR1.out.below bx).alloc _).lt) (fun e => by have := (hown9.lt _ e.symm).1; omega)).trans ((HR1.out.below bx).alloc _); have k9 := hr9.c0; have f9 := hr9.free 0)
        | (go_simp; (with_reducible refine (refEmpty_any n _ hn).mono ?_); rintro e w5 ⟨g, rfl, hg, hrow, b5⟩; have bx := below_next ((Below.refl _ wr).drew) b5; have c5 := (HR1.out.below bx).c0; have c6 := ((HR1.out.below bx).alloc (.cells #[.int .i64 (n : Int), .slice (some ⟨g, 0, none⟩) ((n + 63) / 64) ((n + 63) / 64)] 37)).c0))
      all_goals
        have hg' : wr.heap.size ≤ g := hg
        have bP := bx.alloc bx.size (.cells #[.int .i64 (n : Int), .slice (some ⟨g, 0, none⟩) ((n + 63) / 64) ((n + 63) / 64)] 37)
        have B9 := grown_below2 (below_next HB.out bP) hown9 (by omega) hg9
        have hr8 : RelAt w9 w.heap.size none 0 0 := (hg9.block _ (((HR0.out.below bx).alloc _).lt) (fun e => by have := (hown9.lt _ e.symm).1; omega)).trans ((HR0.out.below bx).alloc _)
        have hF : (fun i => if i = K then (fun _ => 0) else (fun (_ _ : Nat) => 0) i) = (fun (_ _ : Nat) => 0) := funext fun i => by split <;> rfl
        rw [hF] at hBS9
        have hD9 : Hid (∀ a b, a < K + 1 → b < K + 1 → a ≠ b → (fun i => if i = K then g else G i) a ≠ (fun i => if i = K then g else G i) b) := Lib.hid fun a b ha hb hab => by
          by_cases ea : a = K
          · by_cases eb : b = K
            · omega
            · simp only [if_pos ea, if_neg eb]
              have := (HBS.out.r b (by omega)).lt; omega
          · by_cases eb : b = K
            · simp only [if_neg ea, if_pos eb]
              have := (HBS.out.r a (by omega)).lt; omega
            · simp only [if_neg ea, if_neg eb]
              exact hD.out a b (by omega) (by omega) hab
        clear hrow b5 c5 c6 bx c0 f0 HR1 HR0 HBS HB hD bP hown9 hg9 hF k9 f9
        go_wp2_with fail
        go_roundw
        case rel => exact ⟨K + 1, _, _, _, by go_num, by omega, relAt_put2 hr9, hBS9.farp (q := ⟨w.heap.size + 1, 0, none⟩) (by show w.heap.size + 1 < w.heap.size + 2; omega) _, hD9, hr8.far (by show w.heap.size ≠ w.heap.size + 1; omega) _, B9.setCell (p := ⟨w.heap.size + 1, 0, none⟩) (by show w.heap.size ≤ w.heap.size + 1; omega) _⟩
        case measure => simp [intOf]; omega
    · obtain rfl : K = n := by omega
      have o0 := hr1.c0
      have r0 := hr0.c0
      have f0 := hr0.free 0
      have H1 := Lib.hid ((hBS.farp (q := ⟨w.heap.size, 0, none⟩) (by show w.heap.size < w.heap.size + 2; omega) (.slice Av K cv)).mono (show w.heap.size ≤ w.heap.size + 2 by omega))
      have HB := Lib.hid (hB.setCell (p := ⟨w.heap.size, 0, none⟩) (Nat.le_refl _) (.slice Av K cv))
      clear hBS hB
      go_wp2_with fail
      refine bodyPost_ret (v := .agg #[.slice Av K cv]) (by simp [results, Tryd.results57, go_sem, r0]) rfl ?_
      exact ⟨Av, cv, G, rfl, H1.out, hD.out, HB.out⟩
end Go.Proofs.YtakjdihhbndcnaaDoor
