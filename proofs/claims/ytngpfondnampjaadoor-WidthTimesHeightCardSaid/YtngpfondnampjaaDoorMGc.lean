/- Merged: RSet, RTab. -/
import Derived.Test.YtngpfondnampjaaDoorPCov
/- The reference: Set, Valid of layer 3. -/
namespace Go.Proofs.YtngpfondnampjaaDoor
open Go.RowKit
theorem shr_any (x u : Nat) : ((x : Int) / 2 ^ u == 0) = decide (x / 2 ^ u = 0) := shr_test x u
theorem set_yes (n : Nat) (r : RowD) (w : World) (hr : Wds w r.A r.l r.f) (hn : n ≤ 512) (h : VRow n r) :
    Calls Tryd.prog 27 #[.agg #[.int .i64 r.N, .slice r.A r.l r.c], .int .i64 n] w fun e w' => e = .returned (.bool true) ∧ Below w.heap.size w w' := by
  obtain ⟨N, A, l, c, f⟩ := r
  obtain ⟨h1, h2⟩ := h
  replace h1 : N = n := h1
  subst h1
  have hl : l = (n + 63) / 64 := by have := h2.2.2.1; simpa using this
  have hl1 := (vld_last hr.1 hn hl).1 h2
  have hne : ((n : Int) != (n : Int)) = false := by simp
  have heq : ((l : Int) != (((n : Int) + 63) / 64)) = false := by
    have e : (l : Int) = ((n : Int) + 63) / 64 := by omega
    rw [e]; simp
  have heq2 : ((l : Int) == (((n : Int) + 63) / 64)) = true := by rw [beq_iff_eq]; omega
  have bO : Below w.heap.size w (w.alloc (.cells #[.int .i64 n, .slice A l c] 28)) := (Below.refl _ _).alloc (Nat.le_refl _) _
  by_cases h0 : n % 64 = 0
  · have hz : ((n : Int) % 64 == 0) = true := by rw [beq_iff_eq]; omega
    have HL := Lib.hid hl
    clear hl hr h2 h0 hl1
    go_enter Tryd.func27, Tryd.ntmps27
    go_wp2_with fail
    go_ret
    exact ⟨rfl, bO⟩
  · have hz : ((n : Int) % 64 == 0) = false := by rw [beq_eq_false_iff_ne]; omega
    have hf : f (l - 1) / 2 ^ (n % 64) = 0 := by rcases hl1 with h | h; exact absurd h h0; exact h
    obtain ⟨b, off, hA, hb, hc⟩ := hr.2 (by show 0 < l; omega)
    replace hA : A = some ⟨b, off, none⟩ := hA
    subst hA
    have x := (bO.cell (p := ⟨b, off + (l - 1), none⟩) hb).trans (hc (l - 1) (by show l - 1 < l; omega))
    have hidx : l - 1 = n / 64 := by omega
    rw [hidx] at x hf
    replace x : (w.alloc (.cells #[.int .i64 n, .slice (some ⟨b, off, none⟩) l c] 28)).cell? ⟨b, off + n / 64, none⟩ = some (.int .u64 (f (n / 64) : Nat)) := x
    have hq0 : (0 : Int) ≤ (n : Int) / 64 := by omega
    have hq1 : (n : Int) / 64 < (l : Int) := by omega
    have hq2 : ((n : Int) / 64).toNat = n / 64 := by omega
    have ht := shr_any (f (n / 64)) (n % 64)
    rw [decide_eq_true hf] at ht
    have HT := Lib.hid ht
    clear hl hr h2 h0 hl1 hidx hf hc ht
    generalize f (n / 64) = y at *
    go_enter Tryd.func27, Tryd.ntmps27
    go_wp2_with fail
    go_ret
    exact ⟨ret_bool HT.out, bO⟩
theorem set_no (n : Nat) (r : RowD) (w : World) (hr : Wds w r.A r.l r.f) (hn : n ≤ 512) (h : ¬ VRow n r) :
    Calls Tryd.prog 27 #[.agg #[.int .i64 r.N, .slice r.A r.l r.c], .int .i64 n] w fun e w' => e = .returned (.bool false) ∧ Below w.heap.size w w' := by
  obtain ⟨N, A, l, c, f⟩ := r
  have bO : Below w.heap.size w (w.alloc (.cells #[.int .i64 N, .slice A l c] 28)) := (Below.refl _ _).alloc (Nat.le_refl _) _
  by_cases hN : N = n
  · subst hN
    have hne : ((n : Int) != (n : Int)) = false := by simp
    by_cases hl : l = (n + 63) / 64
    · have heq : ((l : Int) != (((n : Int) + 63) / 64)) = false := by
        have e : (l : Int) = ((n : Int) + 63) / 64 := by omega
        rw [e]; simp
      have heq2 : ((l : Int) == (((n : Int) + 63) / 64)) = true := by rw [beq_iff_eq]; omega
      have hnv : ¬ Vld (n : Int) l f := fun hv => h ⟨rfl, hv⟩
      rw [vld_last hr.1 hn hl] at hnv
      have h0 : ¬ n % 64 = 0 := fun e => hnv (Or.inl e)
      have hf : ¬ f (l - 1) / 2 ^ (n % 64) = 0 := fun e => hnv (Or.inr e)
      have hz : ((n : Int) % 64 == 0) = false := by rw [beq_eq_false_iff_ne]; omega
      obtain ⟨b, off, hA, hb, hc⟩ := hr.2 (by show 0 < l; omega)
      replace hA : A = some ⟨b, off, none⟩ := hA
      subst hA
      have x := (bO.cell (p := ⟨b, off + (l - 1), none⟩) hb).trans (hc (l - 1) (by show l - 1 < l; omega))
      have hidx : l - 1 = n / 64 := by omega
      rw [hidx] at x hf
      replace x : (w.alloc (.cells #[.int .i64 n, .slice (some ⟨b, off, none⟩) l c] 28)).cell? ⟨b, off + n / 64, none⟩ = some (.int .u64 (f (n / 64) : Nat)) := x
      have hq0 : (0 : Int) ≤ (n : Int) / 64 := by omega
      have hq1 : (n : Int) / 64 < (l : Int) := by omega
      have hq2 : ((n : Int) / 64).toNat = n / 64 := by omega
      have ht := shr_any (f (n / 64)) (n % 64)
      rw [decide_eq_false hf] at ht
      have HT := Lib.hid ht
      clear hl hr h h0 hnv hidx hf hc ht
      generalize f (n / 64) = y at *
      go_enter Tryd.func27, Tryd.ntmps27
      go_wp2_with fail
      go_ret
      exact ⟨ret_bool HT.out, bO⟩
    · have heq2 : ((l : Int) == (((n : Int) + 63) / 64)) = false := by rw [beq_eq_false_iff_ne]; omega
      have heq : ((l : Int) != (((n : Int) + 63) / 64)) = true := by simp only [bne, heq2]; rfl
      clear h hr hl
      go_enter Tryd.func27, Tryd.ntmps27
      go_wp2_with fail
      go_ret
      exact ⟨rfl, bO⟩
  · have heq : (N == (n : Int)) = false := beq_false_of_ne hN
    have heq2 : (N != (n : Int)) = true := by simp only [bne, heq]; rfl
    clear h hN hr
    go_enter Tryd.func27, Tryd.ntmps27
    go_wp2_with fail
    go_ret
    exact ⟨rfl, bO⟩
theorem refValid_any (A : Option Addr) (n c : Nat) (R : Nat → RowD) (J : Nat) (v : Bool) (w : World) (h : Rel w A n R) (hn : n ≤ 512) (hJ : J ≤ n) (hz : ∀ k, k < J → VRow n (R k)) (hv : (v = true ∧ J = n) ∨ (v = false ∧ J < n ∧ ¬ VRow n (R J))) :
    Calls Tryd.prog 38 #[.agg #[.slice A n c]] w fun e w' => e = .returned (.bool v) ∧ Below w.heap.size w w' := by
  have HH := Lib.hid h; clear h
  have HZ := Lib.hid hz; clear hz
  have HV := Lib.hid hv; clear hv
  have b0 : Below w.heap.size w (w.alloc (.cells #[.slice A n c] 24)) := (Below.refl _ _).alloc (Nat.le_refl _) _
  have r0 := relAt_new w A n c
  have c0 := r0.c0
  have hd : decide (512 < (n : Int)) = false := decide_eq_false (by omega)
  go_enter Tryd.func38, Tryd.ntmps38
  go_wp2_with fail
  clear c0
  go_loopw [4] (fun i wr => ∃ K : Nat, K ≤ J ∧ i = .int .i64 K ∧ RelAt wr w.heap.size A n c ∧ Below w.heap.size w wr) (fun i _ => J - (intOf i).toNat)
  case atStart => exact ⟨0, by omega, rfl, r0, b0⟩
  case round =>
    clear r0 b0
    obtain ⟨K, hK, rfl, hr, hB⟩ := hrel
    by_cases hlt : K < n
    · obtain ⟨b, off, rfl, hbl, hcz⟩ := (HH.out.below hB) (by omega)
      obtain ⟨x0, x1, x2⟩ := hcz K hlt
      have X2 := Lib.hid x2
      have c0 := hr.c0
      clear hcz x2
      by_cases hKJ : K < J
      · have hs := Lib.hid (HZ.out K hKJ)
        have hwrap : IntKind.i64.wrap ((K : Int) + 1) = (K : Int) + 1 := IntWalk.i64_in _ (by omega)
        go_wp2_with fail
        refine (set_yes n (R K) _ X2.out hn hs.out).mono ?_; rintro e w2 ⟨rfl, b2⟩
        go_wp2_with fail
        go_roundw
        case rel => exact ⟨K + 1, by omega, by go_num, hr.below b2, below_next hB b2⟩
        case measure => simp [intOf]; omega
      · obtain rfl : K = J := by omega
        rcases HV.out with ⟨_, h2⟩ | ⟨rfl, _, h3⟩
        · omega
        · have hs := Lib.hid h3; clear h3
          go_wp2_with fail
          refine (set_no n (R K) _ X2.out hn hs.out).mono ?_; rintro e w2 ⟨rfl, b2⟩
          go_wp2_with fail
          go_ret
          exact ⟨rfl, below_next hB b2⟩
    · rcases HV.out with ⟨rfl, h2⟩ | ⟨_, h2, _⟩
      · have HJ := Lib.hid h2; clear h2
        go_wp2_with fail
        go_ret
        exact ⟨rfl, hB⟩
      · omega
theorem refValid_yes (A : Option Addr) (n c : Nat) (R : Nat → RowD) (w : World) (h : Rel w A n R) (hv : VRel n R) :
    Calls Tryd.prog 38 #[.agg #[.slice A n c]] w fun e w' => e = .returned (.bool true) ∧ Below w.heap.size w w' :=
  refValid_any A n c R n true w h hv.1 (Nat.le_refl _) hv.2 (Or.inl ⟨rfl, rfl⟩)
theorem refValid_no (A : Option Addr) (n c : Nat) (R : Nat → RowD) (w : World) (h : Rel w A n R) (hv : ¬ VRel n R) :
    Calls Tryd.prog 38 #[.agg #[.slice A n c]] w fun e w' => e = .returned (.bool false) ∧ Below w.heap.size w w' := by
  by_cases h512 : n ≤ 512
  · obtain ⟨J, hJ, hJ2, hJ3⟩ := first_bad (p := fun k => VRow n (R k)) (n := n) (fun h => hv ⟨h512, h⟩)
    exact refValid_any A n c R J false w h h512 (by omega) hJ3 (Or.inr ⟨rfl, hJ, hJ2⟩)
  · have b0 : Below w.heap.size w (w.alloc (.cells #[.slice A n c] 24)) := (Below.refl _ _).alloc (Nat.le_refl _) _
    have c0 := (relAt_new w A n c).c0
    have hd : decide (512 < (n : Int)) = true := decide_eq_true (by omega)
    clear hv h
    go_enter Tryd.func38, Tryd.ntmps38
    go_wp2_with fail
    go_ret
    exact ⟨rfl, b0⟩
end Go.Proofs.YtngpfondnampjaaDoor
/- Tables of truths in memory; the reference s Table. -/
namespace Go.Proofs.YtngpfondnampjaaDoor
open Go.RowKit
def tbv (f : Nat → Bool) (m : Nat) : List Value := (List.range m).map fun j => .bool (f j)
theorem tbv_len (f : Nat → Bool) (m : Nat) : (tbv f m).length = m := by simp [tbv]
theorem tbv_get {f : Nat → Bool} {m j : Nat} (h : j < m) : (tbv f m)[j]? = some (.bool (f j)) := by simp [tbv, h]
theorem tbv_set (f : Nat → Bool) (m j : Nat) (b : Bool) : (tbv f m).set j (.bool b) = tbv (fun x => if x = j then b else f x) m := by
  apply List.ext_getElem?
  intro k
  by_cases hk : k < m
  · rw [tbv_get hk, List.getElem?_set]
    by_cases e : j = k
    · subst e; rw [if_pos rfl, if_pos (by rw [tbv_len]; exact hk), if_pos rfl]
    · rw [if_neg e, tbv_get hk, if_neg (fun h => e h.symm)]
  · rw [List.getElem?_eq_none (by rw [List.length_set, tbv_len]; omega), List.getElem?_eq_none (by rw [tbv_len]; omega)]
theorem tbv_congr {f g : Nat → Bool} {m : Nat} (h : ∀ j, j < m → f j = g j) : tbv f m = tbv g m := by
  unfold tbv
  apply List.map_congr_left
  intro j hj
  rw [h j (by simpa using hj)]
theorem made_tbv (m : Nat) : (madeCells #[Value.bool false] m).toList = tbv (fun _ => false) m := by
  rw [toList_madeCells_one]
  apply List.ext_getElem?
  intro k
  by_cases hk : k < m
  · rw [tbv_get hk]; simp [hk]
  · rw [List.getElem?_eq_none (by simp; omega), List.getElem?_eq_none (by rw [tbv_len]; omega)]
/- one row of truths -/
def BRow (w : World) (base g m c : Nat) (f : Nat → Bool) : Prop := w.ownsRow base 4 1 (.slice (some ⟨g, 0, none⟩) m c) m (tbv f m)
section
variable {w w' : World} {base g m c : Nat} {f h : Nat → Bool}
theorem BRow.below (x : BRow w base g m c f) (b : Below w.heap.size w w') : BRow w' base g m c f := own_below x b
theorem BRow.cell (x : BRow w base g m c f) {j : Nat} (hj : j < m) : w.cell? ⟨g, j, none⟩ = some (.bool (f j)) := (x.cellAt j (by omega)).trans (tbv_get hj)
theorem BRow.frozen (x : BRow w base g m c f) (j : Nat) : w.frozen? ⟨g, j, none⟩ = false := x.frozenAt j
theorem BRow.lt (x : BRow w base g m c f) : base ≤ g ∧ g < w.heap.size := World.ownsRow.lt x g rfl
theorem BRow.set (x : BRow w base g m c f) (j : Nat) (b : Bool) : BRow (w.setCell ⟨g, j, none⟩ (.bool b)) base g m c (fun k => if k = j then b else f k) := by
  have := (World.ownsRow.stored x j (.bool b)).1
  rw [tbv_set] at this; exact this
theorem BRow.congr (x : BRow w base g m c f) (e : ∀ j, j < m → f j = h j) : BRow w base g m c h := by
  unfold BRow at x ⊢
  rw [← tbv_congr e]; exact x
theorem BRow.kept (x : BRow w base g m c f) {row : Option Nat} (hg : w.grownBy w' row) (hne : some g ≠ row) : BRow w' base g m c f := World.ownsRow.kept x hg (Or.inr (fun e => hne e))
theorem BRow.far (x : BRow w base g m c f) {q : Addr} (hq : g ≠ q.block) (u : Value) : BRow (w.setCell q u) base g m c f := x.kept (grown_setCell w q u) (fun e => hq (by injection e))
end
theorem brow_made (w : World) (base m : Nat) (hb : base ≤ w.heap.size) (hm : m ≤ 1000000) : BRow (w.alloc (.cells (madeCells #[.bool false] m) 4)) base w.heap.size m m (fun _ => false) := by
  have := World.ownsRow_lit (base := base) (e := 4) (size := 1) w (madeCells #[.bool false] m) m hb (by unfold maxLen; omega) (by rw [size_madeCells, Nat.mul_one])
  rw [made_tbv] at this; exact this
/- k rows of m truths -/
def tvals (B C : Nat → Nat) (m k : Nat) : List Value := (List.range k).map fun i => .slice (some ⟨B i, 0, none⟩) m (C i)
theorem tvals_len (B C : Nat → Nat) (m k : Nat) : (tvals B C m k).length = k := by simp [tvals]
theorem tvals_get {B C : Nat → Nat} {m k i : Nat} (h : i < k) : (tvals B C m k)[i]? = some (.slice (some ⟨B i, 0, none⟩) m (C i)) := by simp [tvals, h]
structure BTab (w : World) (base : Nat) (v : Value) (k m : Nat) (B C : Nat → Nat) (T : Nat → Nat → Bool) : Prop where
  o : w.ownsRow base 65 1 v k (tvals B C m k)
  r : ∀ i, i < k → BRow w base (B i) m (C i) (T i)
  d : ∀ i j, i < k → j < k → i ≠ j → B i ≠ B j
section
variable {w w' : World} {base k m : Nat} {v : Value} {B C : Nat → Nat} {T S : Nat → Nat → Bool}
theorem BTab.below (h : BTab w base v k m B C T) (b : Below w.heap.size w w') : BTab w' base v k m B C T := ⟨own_below h.o b, fun i hi => (h.r i hi).below b, h.d⟩
theorem BTab.mono {base' : Nat} (h : BTab w base v k m B C T) (hb : base' ≤ base) : BTab w base' v k m B C T := ⟨own_mono h.o hb, fun i hi => own_mono (h.r i hi) hb, h.d⟩
theorem BTab.congr (h : BTab w base v k m B C T) (e : ∀ i, i < k → ∀ j, j < m → T i j = S i j) : BTab w base v k m B C S := ⟨h.o, fun i hi => (h.r i hi).congr (e i hi), h.d⟩
theorem BTab.form (h : BTab w base v k m B C T) : ∃ A c, v = .slice A k c := by
  rcases h.o.2 with ⟨rfl, hn⟩ | ⟨g, cap, cur, rfl, _⟩
  · exact ⟨none, 0, by rw [hn]⟩
  · exact ⟨_, _, rfl⟩
/- row i is found where the table says -/
theorem BTab.cell {A : Option Addr} {c : Nat} (h : BTab w base (.slice A k c) k m B C T) {i : Nat} (hi : i < k) : ∃ g, A = some ⟨g, 0, none⟩ ∧ g < w.heap.size ∧ w.cell? ⟨g, i, none⟩ = some (.slice (some ⟨B i, 0, none⟩) m (C i)) := by
  obtain ⟨g, cap, hv, _, hlt⟩ := h.o.form (by omega)
  injection hv with e1 _ e2
  subst e1 e2
  exact ⟨g, rfl, hlt, (h.o.cellAt i (by omega)).trans (tvals_get hi)⟩
theorem BTab.apart (h : BTab w base v k m B C T) {i : Nat} (hi : i < k) : v.ownBlock = none ∨ v.ownBlock ≠ some (B i) := own_apart h.o (h.r i hi) (by decide)
/- a truth is stored -/
theorem BTab.set (h : BTab w base v k m B C T) {i : Nat} (hi : i < k) (j : Nat) (b : Bool) : BTab (w.setCell ⟨B i, j, none⟩ (.bool b)) base v k m B C (fun a x => if a = i ∧ x = j then b else T a x) := by
  refine ⟨h.o.kept (grown_setCell w _ _) ?_, fun a ha => ?_, h.d⟩
  · exact h.apart hi
  · by_cases e : a = i
    · subst e
      refine ((h.r a ha).set j b).congr (fun x _ => ?_)
      by_cases ex : x = j
      · rw [if_pos ex, if_pos ⟨rfl, ex⟩]
      · rw [if_neg ex, if_neg (fun h => ex h.2)]
    · refine ((h.r a ha).far (q := ⟨B i, j, none⟩) (h.d a i ha hi e) _).congr (fun x _ => ?_)
      rw [if_neg (fun h => e h.1)]
end
/- append of one row -/
theorem append_brow {ops : Array Oper} {rest : List Oper} {o : Oper} {a : Act} {Q : Exit → Act → World → Prop} (hgd : o.guard = none) (s x : Operand)
    (ho : o.op = .call { callee := .builtin .append, args := #[s, x], argTypes := #[36, 36] }) (base : Nat) (v : Value) (k m g c : Nat) (B C : Nat → Nat) (T : Nat → Nat → Bool) (f : Nat → Bool) (w : World) (hs : a.eval s = v)
    (ht : BTab w base v k m B C T) (hrow : BRow w base g m c f) (hx : a.eval x = .slice (some ⟨w.heap.size, 0, none⟩) 1 1) (hk : k ≤ 1000000) (hbase : base ≤ w.heap.size) (hne : ∀ i, i < k → B i ≠ g)
    (h : ∀ g' cap w', BTab w' base (.slice (some ⟨g', 0, none⟩) (k + 1) cap) (k + 1) m (fun i => if i = k then g else B i) (fun i => if i = k then c else C i) (fun i => if i = k then f else T i) → (w.alloc (.cells #[.slice (some ⟨g, 0, none⟩) m c] 65)).grownBy w' v.ownBlock → wpList Tryd.prog ops Q rest (a.put o.dst (.slice (some ⟨g', 0, none⟩) (k + 1) cap)) w') :
    wpList Tryd.prog ops Q (o :: rest) a (w.alloc (.cells #[.slice (some ⟨g, 0, none⟩) m c] 65)) := by
  have bA : Below w.heap.size w (w.alloc (.cells #[.slice (some ⟨g, 0, none⟩) m c] 65)) := (Below.refl _ _).alloc (Nat.le_refl _) _
  have hA := ht.below bA
  have hrA := hrow.below bA
  refine append_one_at hgd s x 36 65 ho 1 24 _ Tryd.underlying36 Tryd.info65 rfl (by decide) (by decide) base v k (tvals B C m k) hs hA.o w.heap.size #[.slice (some ⟨g, 0, none⟩) m c] hx (heap_alloc_new w _) rfl ?_ hk (by simp; omega) (fun g' cap w' h1 h2 h3 h4 => h g' cap w' ⟨?_, fun i hi => ?_, fun i j hi hj hij => ?_⟩ h2)
  · intro u hu
    simp at hu
    subst hu; rfl
  · have e : tvals (fun i => if i = k then g else B i) (fun i => if i = k then c else C i) m (k + 1) = tvals B C m k ++ [.slice (some ⟨g, 0, none⟩) m c] := by
      unfold tvals
      rw [List.range_succ, List.map_append]
      congr 1
      · apply List.map_congr_left
        intro i hi
        have : i ≠ k := by have := List.mem_range.1 hi; omega
        show Value.slice _ _ _ = _
        simp only [if_neg this]
      · simp
    rw [e]; exact h1
  · by_cases e : i = k
    · subst e
      rw [if_pos rfl, if_pos rfl, if_pos rfl]
      refine hrA.kept h2 (fun e => ?_)
      rcases own_apart hA.o hrA (by decide) with h5 | h5
      · rw [h5] at e; cases e
      · exact h5 (by rw [← e]; rfl)
    · rw [if_neg e, if_neg e, if_neg e]
      refine (hA.r i (by omega)).kept h2 (fun e2 => ?_)
      rcases hA.apart (i := i) (by omega) with h5 | h5
      · rw [h5] at e2; cases e2
      · exact h5 e2.symm
  · by_cases ei : i = k
    · rw [if_pos ei]
      by_cases ej : j = k
      · omega
      · rw [if_neg ej]; exact fun h => hne j (by omega) h.symm
    · rw [if_neg ei]
      by_cases ej : j = k
      · rw [if_pos ej]; exact hne i (by omega)
      · rw [if_neg ej]; exact ht.d i j (by omega) (by omega) hij
def TabOk (w : World) (n : Nat) (T : Nat → Nat → Bool) (e : Ending) (w' : World) : Prop := ∃ v B C, e = .returned v ∧ BTab w' w.heap.size v n n B C T ∧ Below w.heap.size w w'
theorem BTab.far {w : World} {base k m g c j : Nat} {v : Value} {B C : Nat → Nat} {T : Nat → Nat → Bool} {f : Nat → Bool} (h : BTab w base v k m B C T) (hrow : BRow w base g m c f) (hne : ∀ i, i < k → B i ≠ g) (u : Value) : BTab (w.setCell ⟨g, j, none⟩ u) base v k m B C T :=
  ⟨h.o.kept (grown_setCell w _ _) (own_apart h.o hrow (by decide)), fun i hi => (h.r i hi).far (q := ⟨g, j, none⟩) (hne i hi) u, h.d⟩
theorem bit_mod (x u : Nat) : ((((x / 2 ^ u) % 2 : Nat) : Int) == 1) = x.testBit u := by
  rw [Nat.testBit_eq_decide_div_mod_eq]
  by_cases h : x / 2 ^ u % 2 = 1
  · rw [h]; rfl
  · rw [decide_eq_false h]; exact beq_false_of_ne (by omega)
theorem bit_tmod (y u : Nat) : (((y : Int) / 2 ^ u).tmod 2 == 1) = y.testBit u := by
  have e : (y : Int) / 2 ^ u = ((y / 2 ^ u : Nat) : Int) := by simp
  rw [e, Int.tmod_eq_emod_of_nonneg (Int.natCast_nonneg _)]
  have e2 : ((y / 2 ^ u : Nat) : Int) % 2 = (((y / 2 ^ u) % 2 : Nat) : Int) := by simp
  rw [e2]; exact bit_mod y u
set_option maxRecDepth 100000 in
set_option maxHeartbeats 4000000 in
theorem rtable_any (A : Option Addr) (n c : Nat) (R : Nat → RowD) (w : World) (h : Rel w A n R) (hv : VRel n R) :
    Calls Tryd.prog 15 #[.agg #[.slice A n c]] w (TabOk w n (mat R)) := by
  have HH := Lib.hid h; clear h
  have hn := hv.1
  have HV := Lib.hid hv; clear hv
  have b0 : Below w.heap.size w (w.alloc (.cells #[.slice A n c] 24)) := (Below.refl _ _).alloc (Nat.le_refl _) _
  have r0 := relAt_new w A n c
  have c0 := r0.c0
  have hmk := make_bools n (by omega)
  go_enter Tryd.func15, Tryd.ntmps15
  go_wp2_with fail
  clear c0
  go_loopw [4, 5, 6, 7] (fun x i _ _ wr => ∃ (K : Nat) (v : Value) (B C : Nat → Nat), v = x ∧ i = .int .i64 K ∧ K ≤ n ∧ BTab wr (w.heap.size + 1) v K n B C (mat R) ∧ RelAt wr w.heap.size A n c ∧ Below w.heap.size w wr) (fun _ i _ _ _ => n - (intOf i).toNat)
  case atStart => exact ⟨0, _, fun _ => 0, fun _ => 0, rfl, rfl, by omega, ⟨World.ownsRow_nil _ _ _ _, fun i hi => absurd hi (Nat.not_lt_zero _), fun i _ hi => absurd hi (Nat.not_lt_zero _)⟩, r0, b0⟩
  case round =>
    clear r0 b0
    obtain ⟨K, v, B, C, rfl, rfl, hK, hBT, hr, hB⟩ := hrel
    by_cases hlt : K < n
    · have hbw : w.heap.size + 1 ≤ wr.heap.size := by have := hr.lt; omega
      have bA : Below wr.heap.size wr (wr.alloc (.cells (madeCells #[.bool false] n) 4)) := (Below.refl _ _).alloc (Nat.le_refl _) _
      have hrow := (brow_made wr (w.heap.size + 1) n hbw (by omega)).congr (h := fun j => if j < 0 then mat R K j else false) (fun j _ => by rw [if_neg (Nat.not_lt_zero _)])
      have hBA := hBT.below bA
      have hrA := hr.below bA
      have BA := below_next hB bA
      have hfresh : Hid (∀ i, i < K → B i ≠ wr.heap.size) := fun i hi e => by have := (hBT.r i hi).lt.2; omega
      have hgl : wr.heap.size < (wr.alloc (.cells (madeCells #[.bool false] n) 4)).heap.size := by simp
      go_wp2_with fail
      clear hBT hr hB bA
      generalize wr.heap.size = g at *
      generalize wr.alloc (.cells (madeCells #[.bool false] n) 4) = W1 at *
      go_loopw [7] (fun j w2 => ∃ D : Nat, D ≤ n ∧ j = .int .i64 D ∧ BTab w2 (w.heap.size + 1) v K n B C (mat R) ∧ BRow w2 (w.heap.size + 1) g n n (fun x => if x < D then mat R K x else false) ∧ RelAt w2 w.heap.size A n c ∧ Below w.heap.size w w2) (fun j _ => n - (intOf j).toNat)
      case atStart => exact ⟨0, by omega, rfl, hBA, hrow, hrA, BA⟩
      case round =>
        clear hBA hrow hrA BA hgl
        obtain ⟨D, hD, rfl, hBT, hrow, hr, hB⟩ := hrel
        by_cases hlt2 : D < n
        · obtain ⟨b, off, rfl, hbl, hcz⟩ := (HH.out.below hB) (by omega)
          obtain ⟨_, x1, x2⟩ := hcz K hlt
          have hl := HV.out.l hlt
          have hbt : Hid (∀ y, (R K).f (D / 64) = y → y.testBit (D % 64) = mat R K D) := fun y hy => by rw [← hy]; rfl
          have hu := x2.1 (D / 64) (by omega)
          obtain ⟨bw, ow', hAw, hbw2, hcw⟩ := x2.2 (by omega)
          have y0 := hcw (D / 64) (by omega)
          have hll : D / 64 < (R K).l := by omega
          clear x2 hcz hcw hl
          generalize (R K).A = A1 at *
          generalize (R K).l = l1 at *
          generalize (R K).c = c1 at *
          subst hAw
          have c0 := hr.c0
          have z0 := hrow.cell hlt2
          have z1 := hrow.frozen D
          have hbt2 := hbt.out _ rfl
          have HBT := Lib.hid hbt2
          clear hbt hbt2
          generalize (R K).f (D / 64) = y at *
          go_wp2_with fail
          have hq := HBT.out
          rw [← bit_tmod] at hq
          have hgb : w.heap.size ≤ g := by omega
          go_roundw
          case rel =>
            refine ⟨D + 1, by omega, by go_num, hBT.far hrow hfresh.out _, ?_, hr.far (by show w.heap.size ≠ g; omega) _, hB.setCell (p := ⟨g, D, none⟩) hgb _⟩
            refine (hrow.set D _).congr (fun x _ => ?_)
            by_cases hx : x = D
            · rw [if_pos hx, if_pos (by omega), hx]; exact hq
            · rw [if_neg hx]
              by_cases hx2 : x < D
              · rw [if_pos hx2, if_pos (by omega)]
              · rw [if_neg hx2, if_neg (by omega)]
          case measure => simp [intOf]; omega
        · obtain rfl : D = n := by omega
          have hbase : w.heap.size + 1 ≤ wr.heap.size := by have := hr.lt; omega
          go_wp2_with (at_builtin; refine append_brow rfl (.tmp 42) (.tmp 44) rfl (w.heap.size + 1) v K D g D B C (mat R) _ wr rfl hBT hrow rfl (by omega) hbase hfresh.out ?_)
          intro g' cap w5 hBT5 hg5
          have bP : Below wr.heap.size wr (wr.alloc (.cells #[.slice (some ⟨g, 0, none⟩) D D] 65)) := (Below.refl _ _).alloc (Nat.le_refl _) _
          have hownA := own_below hBT.o bP
          have B5 := grown_below2 (below_next hB bP) hownA (by omega) hg5
          have hr5 : RelAt w5 w.heap.size A D c := (hg5.block _ (by have := (hr.below bP).lt; exact this) (fun e => by have := (hownA.lt _ e.symm).1; omega)).trans (hr.below bP)
          go_wp2_with fail
          go_roundw
          case rel =>
            refine ⟨K + 1, _, _, _, rfl, by go_num, by omega, hBT5.congr (fun i hi j hj => ?_), hr5, B5⟩
            by_cases e : i = K
            · rw [if_pos e, e]; simp [hj]
            · rw [if_neg e]
          case measure => simp [intOf]; omega
    · obtain rfl : K = n := by omega
      go_wp2_with fail
      go_ret
      exact ⟨v, B, C, rfl, hBT.mono (by omega), hB⟩
end Go.Proofs.YtngpfondnampjaaDoor
