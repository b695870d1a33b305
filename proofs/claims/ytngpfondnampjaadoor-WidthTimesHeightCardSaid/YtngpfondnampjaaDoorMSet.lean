/- Matching, ported: MSet. -/
import Derived.Test.YtngpfondnampjaaDoorMPrs
namespace Go.Proofs.YtngpfondnampjaaDoor
open Go.RowKit
theorem append_nat {ops : Array Oper} {rest : List Oper} {o : Oper} {a : Act} {Q : Exit → Act → World → Prop} (hgd : o.guard = none) (s x : Operand)
    (ho : o.op = .call { callee := .builtin .append, args := #[s, x], argTypes := #[25, 25] }) (base : Nat) (v : Value) (l : List Nat) (i : Nat) (I : Int) (w : World) (hs : a.eval s = v)
    (hown : w.ownsRow base 3 1 v l.length (vals l)) (B : Nat) (hx : a.eval x = .slice (some ⟨B, 0, none⟩) 1 1) (hB : w.heap[B]? = some (.cells #[.int .i64 I] 3 (0, 0))) (hI : (i : Int) = I) (hl : l.length ≤ 1000000) (hbase : base ≤ w.heap.size)
    (h : ∀ g cap w', w'.ownsRow base 3 1 (.slice (some ⟨g, 0, none⟩) (l.length + 1) cap) (l.length + 1) (vals (l ++ [i])) → w.grownBy w' v.ownBlock → (v.ownBlock = some g ∨ w.heap.size ≤ g) → wpList Tryd.prog ops Q rest (a.put o.dst (.slice (some ⟨g, 0, none⟩) (l.length + 1) cap)) w') :
    wpList Tryd.prog ops Q (o :: rest) a w := by
  subst hI
  refine append_one_at hgd s x 25 3 ho 1 8 _ Tryd.underlying25 Tryd.info3 rfl (by decide) (by decide) base v l.length (vals l) hs hown B #[.int .i64 (i : Int)] hx hB rfl ?_ hl hbase (fun g cap w' h1 h2 h3 _ => h g cap w' ?_ h2 ?_)
  · intro u hu
    simp at hu
    subst hu; rfl
  · rw [vals_snoc]; exact h1
  · exact h3.imp id (fun e => by rw [e]; exact Nat.le_refl _)
theorem own_cell {w : World} {base : Nat} {A : Option Addr} {c : Nat} {l : List Nat} (h : w.ownsRow base 3 1 (.slice A l.length c) l.length (vals l)) {k : Nat} (hk : k < l.length) : ∃ b, A = some ⟨b, 0, none⟩ ∧ w.cell? ⟨b, k, none⟩ = some (.int .i64 (l[k] : Nat)) := by
  obtain ⟨g, cap, hv, _, _⟩ := h.form (by omega)
  injection hv with e1 _ e2
  subst e1 e2
  refine ⟨g, rfl, ?_⟩
  have := h.cellAt k (by omega)
  rw [this]
  unfold vals
  rw [List.getElem?_map, List.getElem?_eq_getElem hk]; rfl

/- the set of the numbers of a list -/
def setF (l : List Nat) : Nat → Nat := ow (fun k => (gets l k).toNat) l.length
theorem setF_bt (l : List Nat) (i : Nat) : bt (setF l) i = true ↔ i ∈ l := by
  unfold setF
  rw [bt_ow]
  have hg : ∀ k (hk : k < l.length), (gets l k).toNat = l[k] := fun k hk => by unfold gets; rw [List.getD_eq_getElem?_getD, List.getElem?_eq_getElem hk]; simp
  constructor
  · rintro ⟨k, hk, he⟩
    rw [hg k hk] at he
    rw [← he]; exact List.getElem_mem hk
  · intro hm
    obtain ⟨k, hk⟩ := List.mem_iff_getElem?.1 hm
    obtain ⟨hkl, hke⟩ := List.getElem?_eq_some_iff.1 hk
    exact ⟨k, hkl, by rw [hg k hkl, hke]⟩
theorem setF_vld {n : Nat} {l : List Nat} (hn : n ≤ 512) (h : ∀ x, x ∈ l → x < n) : Vld (n : Int) ((n + 63) / 64) (setF l) := by
  refine ⟨by omega, by omega, by simp, fun i hi _ => ?_⟩
  simp only [Int.toNat_natCast] at hi
  cases hb : bt (setF l) i
  · rfl
  · have := h i ((setF_bt l i).1 hb)
    omega
theorem setF_u64 (l : List Nat) (m : Nat) : U64 (setF l) m := ow_u64 _ _ _
theorem of_list (n : Nat) (v : Value) (base : Nat) (l : List Nat) (w : World) (hn : n ≤ 512) (hown : w.ownsRow base 3 1 v l.length (vals l)) (hl : l.length ≤ 1000000) (h : ∀ x, x ∈ l → x < n) :
    Calls Tryd.prog 57 #[.int .i64 n, v] w (SetOk w n ((n + 63) / 64) (setF l)) := by
  obtain ⟨A, c, rfl, hI, _⟩ := own_ints hown
  refine (of_any n A l.length c (gets l) l.length true w hn hI hl (Nat.le_refl _) (fun k hk => ?_) (Or.inl ⟨rfl, rfl⟩)).mono fun e w' h => ?_
  · have : gets l k = ((l[k] : Nat) : Int) := by unfold gets; rw [List.getD_eq_getElem?_getD, List.getElem?_eq_getElem hk]; rfl
    have h2 := h _ (List.getElem_mem hk)
    omega
  · rcases h with ⟨_, h⟩ | ⟨h, _⟩
    · exact h
    · cases h
theorem setAt_put {w : World} {p : Nat} {N N' : Int} {A A' : Option Addr} {l c l' c' : Nat} (h : SetAt w p N A l c) : SetAt ((w.setCell ⟨p, 0, none⟩ (.int .i64 N')).setCell ⟨p, 1, none⟩ (.slice A' l' c')) p N' A' l' c' := by
  have h0 := heap_setCell_same w p 0 _ _ (.int .i64 N') h
  have h1 := heap_setCell_same _ p 1 _ _ (.slice A' l' c') h0
  show _ = _
  simpa using h1

def tl (T : Nat → Bool) (t : Bool) (K : Nat) : List Nat := (List.range K).filter fun v => T v == t
theorem tl_yes {T : Nat → Bool} {t : Bool} {K : Nat} (h : T K = t) : tl T t (K + 1) = tl T t K ++ [K] := by
  unfold tl; rw [List.range_succ, List.filter_append]; simp [h]
theorem tl_no {T : Nat → Bool} {t : Bool} {K : Nat} (h : T K ≠ t) : tl T t (K + 1) = tl T t K := by
  unfold tl; rw [List.range_succ, List.filter_append]; simp [h]
theorem tl_len (T : Nat → Bool) (t : Bool) (K : Nat) : (tl T t K).length ≤ K := by
  unfold tl
  have := List.length_filter_le (fun v => T v == t) (List.range K)
  simpa using this
theorem tl_mem {T : Nat → Bool} {t : Bool} {K v : Nat} : v ∈ tl T t K ↔ v < K ∧ T v = t := by unfold tl; simp
def SetEnd (w : World) (n : Nat) (f : Nat → Nat) (e : Ending) (w' : World) : Prop :=
  ∃ g, e = .returned (.agg #[.int .i64 n, .slice (some ⟨g, 0, none⟩) ((n + 63) / 64) ((n + 63) / 64)]) ∧ w.heap.size ≤ g ∧ w'.rowIs g 60 ((n + 63) / 64) (fun k => .int .u64 (f k : Nat)) ∧ Below w.heap.size w w'
theorem setOf_any (n g : Nat) (T : Nat → Bool) (t : Bool) (w : World) (h : w.rowIs g 4 n (bvals T)) (hn : n ≤ 512) :
    Calls Tryd.prog 80 #[.slice (some ⟨g, 0, none⟩) n n, .bool t] w (SetEnd w n (setF (tl T t n))) := by
  have HT := Lib.hid h; clear h
  have s0 := setAt_new w 0 none 0 0
  have b0 := below_new w (.cells #[.int .i64 0, .slice none 0 0] 28)
  have z0 : (w.alloc (.cells #[.int .i64 0, .slice none 0 0] 28)).heap.size = w.heap.size + 1 := by simp
  go_enter Tryd.func80, Tryd.ntmps80
  go_upto_region 1 with fail
  generalize w.alloc (.cells #[.int .i64 0, .slice none 0 0] 28) = W at *
  go_wp2_with fail
  go_loopw [5, 12] (fun v i wr => ∃ K : Nat, K ≤ n ∧ i = .int .i64 K ∧ wr.ownsRow (w.heap.size + 1) 3 1 v (tl T t K).length (vals (tl T t K)) ∧ SetAt wr w.heap.size 0 none 0 0 ∧ Below w.heap.size w wr) (fun _ i _ => n - (intOf i).toNat)
  case atStart => exact ⟨0, Nat.zero_le _, rfl, ⟨rfl, .inl ⟨rfl, rfl⟩⟩, s0, b0⟩
  case round =>
    clear s0 b0 z0
    obtain ⟨K, hK, rfl, hown, hS, hB⟩ := hrel
    have hsl := hS.lt
    by_cases hlt : K < n
    · have x0 : wr.cell? ⟨g, K, none⟩ = some (.bool (T K)) := (row_below HT.out hB).cell hlt
      have hwrap : IntKind.i64.wrap ((K : Int) + 1) = (K : Int) + 1 := IntWalk.i64_in _ (by omega)
      have hll := tl_len T t K
      by_cases hTK : T K = t
      · have hst : Hid (tl T t (K + 1) = tl T t K ++ [K]) := tl_yes hTK
        rw [hTK] at x0
        have q1 : (t == t) = true := by simp
        obtain ⟨l, hl⟩ : ∃ l, l = tl T t K := ⟨_, rfl⟩
        rw [← hl] at hown hst hll
        clear hl hTK
        have hownA := hown.alloc (.cells #[.int .i64 (K : Int)] 3)
        have hSA := hS.alloc (.cells #[.int .i64 (K : Int)] 3)
        have hBA := below_next hB (below_new wr (.cells #[.int .i64 (K : Int)] 3))
        go_wp2_with (at_builtin; refine append_nat rfl (.tmp 20) (.tmp 22) rfl (w.heap.size + 1) _ l K K _ rfl hownA wr.heap.size rfl (heap_alloc_new _ _) rfl (by omega) (by simp; omega) ?_; intro g9 c9 w9 hown9 hg9 hat9)
        go_roundw
        case rel => exact ⟨K + 1, hlt, by go_num, by rw [hst.out, List.length_append]; exact hown9, (hg9.block _ hSA.lt (fun e => by have := (hown.lt _ e.symm).1; omega)).trans hSA, grown_below hB hown (by omega) hg9⟩
        case measure => simp [intOf]; omega
      · have hst : Hid (tl T t (K + 1) = tl T t K) := tl_no hTK
        have q1 : (T K == t) = false := beq_false_of_ne hTK
        generalize T K = y at *
        clear hTK
        go_wp2_with fail
        go_roundw
        case rel => exact ⟨K + 1, hlt, by go_num, by rw [hst.out]; exact hown, hS, hB⟩
        case measure => simp [intOf]; omega
    · obtain rfl : K = n := by omega
      have hll := tl_len T t K
      have HO := Lib.hid (of_list K u5 (w.heap.size + 1) (tl T t K) wr hn hown (by omega) (fun x hx => (tl_mem.1 hx).1))
      generalize hmw : (K + 63) / 64 = mw at *
      have HMW := Lib.hid hmw
      clear hmw hown
      go_wp2_with fail
      refine HO.out.mono ?_; rintro e w3 ⟨gW, rfl, hgW, hrow, b3⟩
      have hS3 := hS.below b3
      have hB3 := below_next hB b3
      have bA := below_new w3 (.cells #[.int .i64 K, .slice (some ⟨gW, 0, none⟩) mw mw] 28)
      have hS4 := hS3.alloc (.cells #[.int .i64 K, .slice (some ⟨gW, 0, none⟩) mw mw] 28)
      have hB4 := below_next hB3 bA
      have hrow4 := row_below hrow bA
      have hX := setAt_new w3 K (some ⟨gW, 0, none⟩) mw mw
      have hwl := hrow.lt
      go_upto_region 9 with fail
      generalize w3.alloc (.cells #[.int .i64 K, .slice (some ⟨gW, 0, none⟩) mw mw] 28) = w4 at *
      have c0 := hX.c0
      have c1 := hX.c1
      have r0 := hS4.c0
      have r1 := hS4.c1
      have f0 := hS4.free 0
      have f1 := hS4.free 1
      have hgne : gW ≠ w.heap.size := by omega
      have s5 := setAt_put (N' := (K : Int)) (A' := some ⟨gW, 0, none⟩) (l' := mw) (c' := mw) hS4
      have k0 := s5.c0
      have k1 := s5.c1
      have hrow5 := (hrow4.setOther (a := ⟨w.heap.size, 0, none⟩) (by exact hgne) (.int .i64 (K : Int))).setOther (a := ⟨w.heap.size, 1, none⟩) (by exact hgne) (.slice (some ⟨gW, 0, none⟩) mw mw)
      have hB5 := (hB4.setCell (p := ⟨w.heap.size, 0, none⟩) (by exact Nat.le_refl _) (.int .i64 (K : Int))).setCell (p := ⟨w.heap.size, 1, none⟩) (by exact Nat.le_refl _) (.slice (some ⟨gW, 0, none⟩) mw mw)
      clear hS hS3 hB3 bA hB4 hrow4 hrow
      go_wp2_with fail
      refine bodyPost_ret (v := .agg #[.int .i64 K, .slice (some ⟨gW, 0, none⟩) mw mw]) (by simp [results, Tryd.results80, go_sem, k0, k1]) rfl ?_
      exact ⟨gW, by rw [HMW.out], by omega, by rw [HMW.out]; exact hrow5, hB5⟩
end Go.Proofs.YtngpfondnampjaaDoor
