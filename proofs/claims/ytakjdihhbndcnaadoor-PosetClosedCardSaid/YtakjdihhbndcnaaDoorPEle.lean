/- Package poset: elements. -/
import Derived.Test.YtakjdihhbndcnaaDoorPLev
import Derived.Test.YtakjdihhbndcnaaDoorPSam
namespace Go.Proofs.YtakjdihhbndcnaaDoor
open Go.RowKit
theorem append_nat {ops : Array Oper} {rest : List Oper} {o : Oper} {a : Act} {Q : Exit → Act → World → Prop} (hgd : o.guard = none) (s x : Operand)
    (ho : o.op = .call { callee := .builtin .append, args := #[s, x], argTypes := #[40, 40] }) (base : Nat) (v : Value) (l : List Nat) (i : Nat) (I : Int) (w : World) (hs : a.eval s = v)
    (hown : w.ownsRow base 3 1 v l.length (vals l)) (B : Nat) (hx : a.eval x = .slice (some ⟨B, 0, none⟩) 1 1) (hB : w.heap[B]? = some (.cells #[.int .i64 I] 3 (0, 0))) (hI : (i : Int) = I) (hl : l.length ≤ 1000000) (hbase : base ≤ w.heap.size)
    (h : ∀ g cap w', w'.ownsRow base 3 1 (.slice (some ⟨g, 0, none⟩) (l.length + 1) cap) (l.length + 1) (vals (l ++ [i])) → w.grownBy w' v.ownBlock → (v.ownBlock = some g ∨ w.heap.size ≤ g) → wpList Tryd.prog ops Q rest (a.put o.dst (.slice (some ⟨g, 0, none⟩) (l.length + 1) cap)) w') :
    wpList Tryd.prog ops Q (o :: rest) a w := by
  subst hI
  refine append_one_at hgd s x 40 3 ho 1 8 _ Tryd.underlying40 Tryd.info3 rfl (by decide) (by decide) base v l.length (vals l) hs hown B #[.int .i64 (i : Int)] hx hB rfl ?_ hl hbase (fun g cap w' h1 h2 h3 _ => h g cap w' ?_ h2 ?_)
  · intro u hu
    simp at hu
    subst hu; rfl
  · rw [vals_snoc]; exact h1
  · exact h3.imp id (fun e => by rw [e]; exact Nat.le_refl _)
/- the set of the numbers of a list -/
def setF (l : List Nat) : Nat → Nat := ow (fun k => (gets l k).toNat) l.length
theorem setF_bt (l : List Nat) (i : Nat) : bt (setF l) i = true ↔ i ∈ l := by
  unfold setF
  rw [bt_ow]
  have hg : ∀ k (hk : k < l.length), (gets l k).toNat = l[k] := fun k hk => by unfold gets; rw [List.getD_eq_getElem?_getD, List.getElem?_eq_getElem hk]; simp
  constructor
  · rintro ⟨k, hk, he⟩
    rw [hg k hk] at he
    rw [← he]; exact List.getElem_mem hk
  · intro hm
    obtain ⟨k, hk⟩ := List.mem_iff_getElem?.1 hm
    obtain ⟨hkl, hke⟩ := List.getElem?_eq_some_iff.1 hk
    exact ⟨k, hkl, by rw [hg k hkl, hke]⟩
theorem setF_vld {n : Nat} {l : List Nat} (hn : n ≤ 512) (h : ∀ x, x ∈ l → x < n) : Vld (n : Int) ((n + 63) / 64) (setF l) := by
  refine ⟨by omega, by omega, by simp, fun i hi _ => ?_⟩
  simp only [Int.toNat_natCast] at hi
  cases hb : bt (setF l) i
  · rfl
  · have := h i ((setF_bt l i).1 hb)
    omega
theorem setF_u64 (l : List Nat) (m : Nat) : U64 (setF l) m := ow_u64 _ _ _
theorem of_list (n : Nat) (v : Value) (base : Nat) (l : List Nat) (w : World) (hn : n ≤ 512) (hown : w.ownsRow base 3 1 v l.length (vals l)) (hl : l.length ≤ 1000000) (h : ∀ x, x ∈ l → x < n) :
    Calls Tryd.prog 70 #[.int .i64 n, v] w (SetOk w n ((n + 63) / 64) (setF l)) := by
  obtain ⟨A, c, rfl, hI, _⟩ := own_ints hown
  refine (of_any n A l.length c (gets l) l.length true w hn hI hl (Nat.le_refl _) (fun k hk => ?_) (Or.inl ⟨rfl, rfl⟩)).mono fun e w' h => ?_
  · have : gets l k = ((l[k] : Nat) : Int) := by unfold gets; rw [List.getD_eq_getElem?_getD, List.getElem?_eq_getElem hk]; rfl
    have h2 := h _ (List.getElem_mem hk)
    omega
  · rcases h with ⟨_, h⟩ | ⟨h, _⟩
    · exact h
    · cases h
def tl (T : Nat → Bool) (t : Bool) (K : Nat) : List Nat := (List.range K).filter fun v => T v == t
theorem tl_yes {T : Nat → Bool} {t : Bool} {K : Nat} (h : T K = t) : tl T t (K + 1) = tl T t K ++ [K] := by
  unfold tl; rw [List.range_succ, List.filter_append]; simp [h]
theorem tl_no {T : Nat → Bool} {t : Bool} {K : Nat} (h : T K ≠ t) : tl T t (K + 1) = tl T t K := by
  unfold tl; rw [List.range_succ, List.filter_append]; simp [h]
theorem tl_len (T : Nat → Bool) (t : Bool) (K : Nat) : (tl T t K).length ≤ K := by
  unfold tl
  have := List.length_filter_le (fun v => T v == t) (List.range K)
  simpa using this
theorem tl_mem {T : Nat → Bool} {t : Bool} {K v : Nat} : v ∈ tl T t K ↔ v < K ∧ T v = t := by unfold tl; simp
def SetEnd (w : World) (n : Nat) (f : Nat → Nat) (e : Ending) (w' : World) : Prop :=
  ∃ g, e = .returned (.agg #[.int .i64 n, .slice (some ⟨g, 0, none⟩) ((n + 63) / 64) ((n + 63) / 64)]) ∧ w.heap.size ≤ g ∧ w'.rowIs g 59 ((n + 63) / 64) (fun k => .int .u64 (f k : Nat)) ∧ Below w.heap.size w w'
set_option maxRecDepth 100000 in
set_option maxHeartbeats 4000000 in
theorem elements68 (n c : Nat) (A : Option Addr) (pR pS : Nat) (T : Nat → Bool) (w : World) (hn : n ≤ 512) (hcl : ∀ i, i < n → ∀ u, Below w.heap.size w u → Calls Tryd.prog 68 #[.int .i64 i, .pointer (some ⟨pR, 0, none⟩), .pointer (some ⟨pS, 0, none⟩)] u fun e w' => e = .returned (.bool (T i)) ∧ Below u.heap.size u w') :
    Calls Tryd.prog 60 #[.agg #[.slice A n c], .func (Fn.func 68) #[] #[.pointer (some ⟨pR, 0, none⟩), .pointer (some ⟨pS, 0, none⟩)]] w (SetEnd w n (setF (tl T true n))) := by
  have HCL := Lib.hid hcl; clear hcl
  have r0 := (relAt_new w A n c).alloc (.cells #[.int .i64 0, .slice none 0 0] 37)
  have s0 := setAt_new (w.alloc (.cells #[.slice A n c] 24)) 0 none 0 0
  have hz : (w.alloc (.cells #[.slice A n c] 24)).heap.size = w.heap.size + 1 := by simp
  rw [hz] at s0
  have b0 : Below w.heap.size w ((w.alloc (.cells #[.slice A n c] 24)).alloc (.cells #[.int .i64 0, .slice none 0 0] 37)) := ((Below.refl _ _).alloc (Nat.le_refl _) _).alloc (by simp) _
  clear hz
  go_enter Tryd.func60, Tryd.ntmps60
  go_upto_region 1 with fail
  generalize (w.alloc (.cells #[.slice A n c] 24)).alloc (.cells #[.int .i64 0, .slice none 0 0] 37) = W at *
  have c0 := r0.c0
  go_wp2_with fail
  clear c0
  go_loopw [6, 14] (fun v i wr => ∃ K : Nat, K ≤ n ∧ i = .int .i64 K ∧ wr.ownsRow (w.heap.size + 2) 3 1 v (tl T true K).length (vals (tl T true K)) ∧ SetAt wr (w.heap.size + 1) 0 none 0 0 ∧ Below w.heap.size w wr) (fun _ i _ => n - (intOf i).toNat)
  case atStart => exact ⟨0, Nat.zero_le _, rfl, ⟨rfl, .inl ⟨rfl, rfl⟩⟩, s0, b0⟩
  case round =>
    clear s0 b0 r0
    obtain ⟨K, hK, rfl, hown, hS, hB⟩ := hrel
    by_cases hlt : K < n
    · have hwrap : IntKind.i64.wrap ((K : Int) + 1) = (K : Int) + 1 := IntWalk.i64_in _ (by omega)
      have hll := tl_len T true K
      have HC := Lib.hid (HCL.out K hlt wr hB)
      obtain ⟨vb, hvb⟩ : ∃ v, T K = v := ⟨_, rfl⟩
      rw [hvb] at HC
      go_wp2_with fail
      refine HC.out.mono ?_; rintro e w2 ⟨rfl, b2⟩
      have hown2 := own_below hown b2
      have hS2 := hS.below b2
      have hB2 := below_next hB b2
      have hsl := hS2.lt
      clear hown hS hB b2 HC
      cases vb with
      | true =>
        have hst : Hid (tl T true (K + 1) = tl T true K ++ [K]) := tl_yes hvb
        obtain ⟨l, hl⟩ : ∃ l, l = tl T true K := ⟨_, rfl⟩
        rw [← hl] at hown2 hst hll
        clear hl hvb
        have hownA := hown2.alloc (.cells #[.int .i64 (K : Int)] 3)
        have hSA := hS2.alloc (.cells #[.int .i64 (K : Int)] 3)
        go_wp2_with (at_builtin; refine append_nat rfl (.tmp 20) (.tmp 22) rfl (w.heap.size + 2) _ l K K _ rfl hownA w2.heap.size rfl (heap_alloc_new _ _) rfl (by omega) (by simp; omega) ?_; intro g9 c9 w9 hown9 hg9 hat9)
        go_roundw
        case rel => exact ⟨K + 1, hlt, by go_num, by rw [hst.out, List.length_append]; exact hown9, (hg9.block _ hSA.lt (fun e => by have := (hown2.lt _ e.symm).1; omega)).trans hSA, grown_below hB2 hown2 (by omega) hg9⟩
        case measure => simp [intOf]; omega
      | false =>
        have hst : Hid (tl T true (K + 1) = tl T true K) := tl_no (by rw [hvb]; exact Bool.false_ne_true)
        clear hvb
        go_wp2_with fail
        go_roundw
        case rel => exact ⟨K + 1, hlt, by go_num, by rw [hst.out]; exact hown2, hS2, hB2⟩
        case measure => simp [intOf]; omega
    · obtain rfl : K = n := by omega
      have hsl := hS.lt
      have hll := tl_len T true K
      have HO := Lib.hid (of_list K u6 (w.heap.size + 2) (tl T true K) wr hn hown (by omega) (fun x hx => (tl_mem.1 hx).1))
      generalize hmw : (K + 63) / 64 = mw at *
      have HMW := Lib.hid hmw
      clear hmw hown
      go_wp2_with fail
      refine HO.out.mono ?_; rintro e w3 ⟨gW, rfl, hgW, hrow, b3⟩
      have hS3 := hS.below b3
      have hB3 := below_next hB b3
      have bA : Below w3.heap.size w3 (w3.alloc (.cells #[.int .i64 K, .slice (some ⟨gW, 0, none⟩) mw mw] 37)) := (Below.refl _ _).alloc (Nat.le_refl _) _
      have hS4 := hS3.alloc (.cells #[.int .i64 K, .slice (some ⟨gW, 0, none⟩) mw mw] 37)
      have hB4 := below_next hB3 bA
      have hrow4 := row_below hrow bA
      have hX := setAt_new w3 K (some ⟨gW, 0, none⟩) mw mw
      have hwl := hrow.lt
      go_upto_region 10 with fail
      generalize w3.alloc (.cells #[.int .i64 K, .slice (some ⟨gW, 0, none⟩) mw mw] 37) = w4 at *
      have c0 := hX.c0
      have c1 := hX.c1
      have r0 := hS4.c0
      have r1 := hS4.c1
      have f0 := hS4.free 0
      have f1 := hS4.free 1
      have hgne : gW ≠ w.heap.size + 1 := by omega
      have s5 := setAt_put (N' := (K : Int)) (A' := some ⟨gW, 0, none⟩) (l' := mw) (c' := mw) hS4
      have k0 := s5.c0
      have k1 := s5.c1
      have hrow5 := (hrow4.setOther (a := ⟨w.heap.size + 1, 0, none⟩) (by exact hgne) (.int .i64 (K : Int))).setOther (a := ⟨w.heap.size + 1, 1, none⟩) (by exact hgne) (.slice (some ⟨gW, 0, none⟩) mw mw)
      have hB5 := (hB4.setCell (p := ⟨w.heap.size + 1, 0, none⟩) (by exact Nat.le_succ _) (.int .i64 (K : Int))).setCell (p := ⟨w.heap.size + 1, 1, none⟩) (by exact Nat.le_succ _) (.slice (some ⟨gW, 0, none⟩) mw mw)
      clear hS hS3 hB3 bA hB4 hrow4 hrow
      go_wp2_with fail
      refine bodyPost_ret (v := .agg #[.int .i64 K, .slice (some ⟨gW, 0, none⟩) mw mw]) (by simp [results, Tryd.results60, go_sem, k0, k1]) rfl ?_
      exact ⟨gW, by rw [HMW.out], by omega, by rw [HMW.out]; exact hrow5, hB5⟩
end Go.Proofs.YtakjdihhbndcnaaDoor
