/- The reference's Minimal and Maximal. -/
import Derived.Test.YtakjdihhbndcnaaDoorPMin
import Derived.Test.YtakjdihhbndcnaaDoorPRfV
namespace Go.Proofs.YtakjdihhbndcnaaDoor
open Go.RowKit Go.Sort
theorem setF_eq {l k : List Nat} (h : ∀ x, x ∈ l ↔ x ∈ k) : setF l = setF k := by
  refine funext fun i => bt_ext (setF_u64 l (i + 1)) (setF_u64 k (i + 1)) (fun j _ => ?_) i (by omega)
  rw [Bool.eq_iff_iff, setF_bt, setF_bt, h]
theorem ofr_list (n : Nat) (v : Value) (base : Nat) (l : List Nat) (w : World) (hn : n ≤ 512) (hown : w.ownsRow base 3 1 v l.length (vals l)) (hl : l.length ≤ 100000) (h : ∀ x, x ∈ l → x < n) :
    Calls Tryd.prog 42 #[.int .i64 n, v] w (SetNew w n ((n + 63) / 64) (setF l)) := by
  obtain ⟨A, c, rfl, hI, _⟩ := own_ints hown
  refine refOf_any n A l.length c (fun k => (gets l k).toNat) w hn (hI.congr fun k _ => ?_) hl (fun k hk => ?_)
  · show ((l.getD k 0 : Nat) : Int) = (((l.getD k 0 : Nat) : Int).toNat : Int)
    omega
  · show ((l.getD k 0 : Nat) : Int).toNat < n
    have := h _ (List.getElem_mem hk)
    rw [getD_lt hk]; omega
theorem rsame_setF (n g h ca cb : Nat) (l : List Nat) (w : World) (hn : n ≤ 512) (ha : w.rowIs g 59 ((n + 63) / 64) (fun k => .int .u64 (setF l k : Nat))) (hb : w.rowIs h 59 ((n + 63) / 64) (fun k => .int .u64 (setF l k : Nat))) :
    Calls Tryd.prog 28 #[.agg #[.int .i64 n, .slice (some ⟨g, 0, none⟩) ((n + 63) / 64) ca], .agg #[.int .i64 n, .slice (some ⟨h, 0, none⟩) ((n + 63) / 64) cb]] w fun e w' => e = .returned (.bool true) ∧ Below w.heap.size w w' :=
  refSame_any n _ _ ((n + 63) / 64) ca cb (setF l) (setF l) ((n + 63) / 64) true w (row_wds ha (setF_u64 _ _)) (row_wds hb (setF_u64 _ _)) (by omega) (Nat.le_refl _) (fun _ _ => rfl) (.inl ⟨rfl, rfl⟩)
set_option maxHeartbeats 4000000 in
theorem below_any (A : Option Addr) (n c i : Nat) (R : Nat → RowD) (w : World) (h : Rel w A n R) (hv : VRel n R) (hi : i < n) :
    Calls Tryd.prog 65 #[.agg #[.slice A n c], .int .i64 i] w fun e w' => e = .returned (.bool (!minT n (mat R) i)) ∧ Below w.heap.size w w' := by
  have HH := Lib.hid h
  have HV := Lib.hid hv
  have hn := hv.1
  have b0 : Below w.heap.size w (w.alloc (.cells #[.slice A n c] 24)) := (Below.refl _ _).alloc (Nat.le_refl _) _
  have r0 := relAt_new w A n c
  obtain ⟨v, hvv⟩ : ∃ v, minT n (mat R) i = v := ⟨_, rfl⟩
  rw [hvv]
  have HVV := Lib.hid hvv
  clear h hv hvv
  go_enter Tryd.func65, Tryd.ntmps65
  go_upto_region 1 with fail
  generalize w.alloc (.cells #[.slice A n c] 24) = W at *
  go_wp2_with fail
  go_loopw [5] (fun x wr => ∃ K : Nat, K ≤ n ∧ x = .int .i64 K ∧ Hid (∀ k, k < K → mat R k i = false) ∧ RelAt wr w.heap.size A n c ∧ Below w.heap.size w wr) (fun x _ => n - (intOf x).toNat)
  case atStart => exact ⟨0, Nat.zero_le _, rfl, Lib.hid (fun k hk => absurd hk (Nat.not_lt_zero _)), r0, b0⟩
  case round =>
    clear r0 b0
    obtain ⟨K, hK, rfl, hQ, hr, hB⟩ := hrel
    have c0 := hr.c0
    by_cases hlt : K < n
    · have HL := Lib.hid (rless_any A n c K i R wr (HH.out.below hB) HV.out hlt hi)
      obtain ⟨t, ht⟩ : ∃ t, mat R K i = t := ⟨_, rfl⟩
      rw [ht] at HL
      have HT := Lib.hid ht
      clear ht
      go_wp2_with fail
      refine HL.out.mono ?_; rintro e w4 ⟨rfl, b4⟩
      have hr4 := hr.below b4
      have hB4 := below_next hB b4
      clear c0 HL hr hB b4
      cases t with
      | false =>
        go_wp2_with fail
        go_roundw
        case rel =>
          refine ⟨K + 1, hlt, by go_num, Lib.hid fun k hk => ?_, hr4, hB4⟩
          by_cases e : k = K
          · rw [e]; exact HT.out
          · exact hQ.out k (by omega)
        case measure => simp [intOf]; omega
      | true =>
        have hv0 : v = false := by
          rw [← HVV.out]
          unfold minT
          rw [Bool.not_eq_false', List.any_eq_true]
          exact ⟨K, List.mem_range.2 hlt, HT.out⟩
        subst hv0
        go_wp2_with fail
        go_ret
        exact ⟨rfl, hB4⟩
    · obtain rfl : K = n := by omega
      have hv1 : v = true := by
        rw [← HVV.out]
        unfold minT
        rw [Bool.not_eq_true', List.any_eq_false]
        intro k hk hb
        rw [hQ.out k (List.mem_range.1 hk)] at hb
        cases hb
      subst hv1
      go_wp2_with fail
      go_ret
      exact ⟨rfl, hB⟩
theorem any_len (n : Nat) (f : Nat → Nat) : decide ((0 : Int) < ((mem f n).length : Nat)) = (List.range n).any (bt f) := by
  rw [Bool.eq_iff_iff, decide_eq_true_eq, List.any_eq_true]
  constructor
  · intro h
    cases hc : mem f n with
    | nil => rw [hc] at h; simp at h
    | cons a t =>
      have ha : a ∈ mem f n := by rw [hc]; exact List.mem_cons_self
      exact ⟨a, List.mem_range.2 (mem_in.1 ha).1, (mem_in.1 ha).2⟩
  · rintro ⟨k, hk, hb⟩
    have hkm : k ∈ mem f n := mem_in.2 ⟨List.mem_range.1 hk, hb⟩
    have := List.length_pos_of_mem hkm
    omega
set_option maxHeartbeats 2000000 in
theorem above_any (A : Option Addr) (n c i : Nat) (R : Nat → RowD) (w : World) (h : Rel w A n R) (hv : VRel n R) (hi : i < n) :
    Calls Tryd.prog 66 #[.agg #[.slice A n c], .int .i64 i] w fun e w' => e = .returned (.bool (!maxT n (mat R) i)) ∧ Below w.heap.size w w' := by
  have b0 : Below w.heap.size w (w.alloc (.cells #[.slice A n c] 24)) := (Below.refl _ _).alloc (Nat.le_refl _) _
  have c0 := (relAt_new w A n c).c0
  obtain ⟨b, off, rfl, hbl, hcz⟩ := (h.below b0) (by omega)
  obtain ⟨x0, x1, xw⟩ := hcz i hi
  have hvk := hv.2 i hi
  rw [hvk.1] at x0
  have hcp := any_len n (R i).f
  have hdw : Hid ((!maxT n (mat R) i) = (List.range n).any (bt (R i).f)) := Lib.hid (by unfold maxT; rw [Bool.not_not]; rfl)
  rw [← hcp] at hdw
  have hn := hv.1
  have HC := Lib.hid (refCount_yes n (R i).A (R i).l (R i).c (R i).f _ xw hvk.2)
  generalize (mem (R i).f n).length = q at *
  generalize (R i).A = A1 at *
  generalize (R i).c = c1 at *
  generalize (R i).l = l1 at *
  clear hcz hvk xw hv hcp h
  go_enter Tryd.func66, Tryd.ntmps66
  go_upto_region 1 with fail
  generalize w.alloc (.cells #[.slice (some ⟨b, off, none⟩) n c] 24) = W at *
  go_wp2_with fail
  refine HC.out.mono ?_; rintro e w6 ⟨rfl, b6⟩
  go_wp2_with fail
  go_ret
  exact ⟨by rw [hdw.out]; first | rfl | simp, below_next b0 b6⟩
set_option maxRecDepth 100000 in
set_option maxHeartbeats 4000000 in
theorem rlist29 (A : Option Addr) (n c : Nat) (F : Nat → Bool) (w : World) (hn : n ≤ 512) (hcl : ∀ i, i < n → ∀ u, Below w.heap.size w u → Calls Tryd.prog 65 #[.agg #[.slice A n c], .int .i64 i] u fun e w' => e = .returned (.bool (!F i)) ∧ Below u.heap.size u w') :
    Calls Tryd.prog 29 #[.agg #[.slice A n c]] w (SetEnd w n (setF (tl F true n))) := by
  have HCL := Lib.hid hcl; clear hcl
  have r0 := (relAt_new w A n c).alloc (.cells #[.int .i64 0, .slice none 0 0] 37)
  have s0 := setAt_new (w.alloc (.cells #[.slice A n c] 24)) 0 none 0 0
  have hz : (w.alloc (.cells #[.slice A n c] 24)).heap.size = w.heap.size + 1 := by simp
  rw [hz] at s0
  have b0 : Below w.heap.size w ((w.alloc (.cells #[.slice A n c] 24)).alloc (.cells #[.int .i64 0, .slice none 0 0] 37)) := ((Below.refl _ _).alloc (Nat.le_refl _) _).alloc (by simp) _
  clear hz
  go_enter Tryd.func29, Tryd.ntmps29
  go_upto_region 1 with fail
  generalize (w.alloc (.cells #[.slice A n c] 24)).alloc (.cells #[.int .i64 0, .slice none 0 0] 37) = W at *
  go_wp2_with fail
  go_loopw [3, 4] (fun v i wr => ∃ K : Nat, K ≤ n ∧ i = .int .i64 K ∧ wr.ownsRow (w.heap.size + 2) 3 1 v (tl F true K).length (vals (tl F true K)) ∧ RelAt wr w.heap.size A n c ∧ SetAt wr (w.heap.size + 1) 0 none 0 0 ∧ Below w.heap.size w wr) (fun _ i _ => n - (intOf i).toNat)
  case atStart => exact ⟨0, Nat.zero_le _, rfl, ⟨rfl, .inl ⟨rfl, rfl⟩⟩, r0, s0, b0⟩
  case round =>
    clear s0 b0 r0
    obtain ⟨K, hK, rfl, hown, hR, hS, hB⟩ := hrel
    have c0 := hR.c0
    by_cases hlt : K < n
    · have hwrap : IntKind.i64.wrap ((K : Int) + 1) = (K : Int) + 1 := IntWalk.i64_in _ (by omega)
      have hll := tl_len F true K
      have HC := Lib.hid (HCL.out K hlt wr hB)
      obtain ⟨vb, hvb⟩ : ∃ v, F K = v := ⟨_, rfl⟩
      rw [hvb] at HC
      go_wp2_with fail
      refine HC.out.mono ?_; rintro e w2 ⟨rfl, b2⟩
      have hown2 := own_below hown b2
      have hR2 := hR.below b2
      have hS2 := hS.below b2
      have hB2 := below_next hB b2
      have hsl := hS2.lt
      clear hown hS hR hB b2 HC c0
      cases vb with
      | true =>
        have hst : Hid (tl F true (K + 1) = tl F true K ++ [K]) := tl_yes hvb
        obtain ⟨l, hl⟩ : ∃ l, l = tl F true K := ⟨_, rfl⟩
        rw [← hl] at hown2 hst hll
        clear hl hvb
        have hownA := hown2.alloc (.cells #[.int .i64 (K : Int)] 3)
        have hSA := hS2.alloc (.cells #[.int .i64 (K : Int)] 3)
        have hRA := hR2.alloc (.cells #[.int .i64 (K : Int)] 3)
        go_wp2_with (at_builtin; refine append_nat rfl (.tmp 16) (.tmp 18) rfl (w.heap.size + 2) _ l K K _ rfl hownA w2.heap.size rfl (heap_alloc_new _ _) rfl (by omega) (by simp; omega) ?_; intro g9 c9 w9 hown9 hg9 hat9)
        go_roundw
        case rel => exact ⟨K + 1, hlt, by go_num, by rw [hst.out, List.length_append]; exact hown9, (hg9.block _ hRA.lt (fun e => by have := (hown2.lt _ e.symm).1; omega)).trans hRA, (hg9.block _ hSA.lt (fun e => by have := (hown2.lt _ e.symm).1; omega)).trans hSA, grown_below hB2 hown2 (by omega) hg9⟩
        case measure => simp [intOf]; omega
      | false =>
        have hst : Hid (tl F true (K + 1) = tl F true K) := tl_no (by rw [hvb]; exact Bool.false_ne_true)
        clear hvb
        go_wp2_with fail
        go_roundw
        case rel => exact ⟨K + 1, hlt, by go_num, by rw [hst.out]; exact hown2, hR2, hS2, hB2⟩
        case measure => simp [intOf]; omega
    · obtain rfl : K = n := by omega
      have hsl := hS.lt
      have hll := tl_len F true K
      have HO := Lib.hid (ofr_list K u3 (w.heap.size + 2) (tl F true K) wr hn hown (by omega) (fun x hx => (tl_mem.1 hx).1))
      unfold SetNew at HO
      generalize hmw : (K + 63) / 64 = mw at *
      have HMW := Lib.hid hmw
      clear hmw hown
      go_wp2_with fail
      refine HO.out.mono ?_; rintro e w4 ⟨g, rfl, hg, hrow, b4⟩
      have s4 := hS.below b4
      have B4 := below_next hB b4
      have k0 := s4.c0
      have k1 := s4.c1
      have f0 := s4.free 0
      have f1 := s4.free 1
      have hgne : g ≠ w.heap.size + 1 := by omega
      have s5 := setAt_put (N' := (K : Int)) (A' := some ⟨g, 0, none⟩) (l' := mw) (c' := mw) s4
      have j0 := s5.c0
      have j1 := s5.c1
      have HROW := Lib.hid ((hrow.setOther (a := ⟨w.heap.size + 1, 0, none⟩) (by exact hgne) (.int .i64 (K : Int))).setOther (a := ⟨w.heap.size + 1, 1, none⟩) (by exact hgne) (.slice (some ⟨g, 0, none⟩) mw mw))
      have B5 := Lib.hid ((B4.setCell (p := ⟨w.heap.size + 1, 0, none⟩) (by show w.heap.size ≤ w.heap.size + 1; omega) (.int .i64 (K : Int))).setCell (p := ⟨w.heap.size + 1, 1, none⟩) (by show w.heap.size ≤ w.heap.size + 1; omega) (.slice (some ⟨g, 0, none⟩) mw mw))
      have hgw : w.heap.size ≤ g := by omega
      clear hR hS s4 s5 c0 b4 hrow HO hB B4
      go_wp2_with fail
      refine bodyPost_ret (v := .agg #[.int .i64 K, .slice (some ⟨g, 0, none⟩) mw mw]) (by simp [results, Tryd.results29, go_sem, j0, j1]) rfl ?_
      exact ⟨g, by rw [HMW.out], hgw, by rw [HMW.out]; exact HROW.out, B5.out⟩
set_option maxRecDepth 100000 in
set_option maxHeartbeats 4000000 in
theorem rlist30 (A : Option Addr) (n c : Nat) (F : Nat → Bool) (w : World) (hn : n ≤ 512) (hcl : ∀ i, i < n → ∀ u, Below w.heap.size w u → Calls Tryd.prog 66 #[.agg #[.slice A n c], .int .i64 i] u fun e w' => e = .returned (.bool (!F i)) ∧ Below u.heap.size u w') :
    Calls Tryd.prog 30 #[.agg #[.slice A n c]] w (SetEnd w n (setF (tl F true n))) := by
  have HCL := Lib.hid hcl; clear hcl
  have r0 := (relAt_new w A n c).alloc (.cells #[.int .i64 0, .slice none 0 0] 37)
  have s0 := setAt_new (w.alloc (.cells #[.slice A n c] 24)) 0 none 0 0
  have hz : (w.alloc (.cells #[.slice A n c] 24)).heap.size = w.heap.size + 1 := by simp
  rw [hz] at s0
  have b0 : Below w.heap.size w ((w.alloc (.cells #[.slice A n c] 24)).alloc (.cells #[.int .i64 0, .slice none 0 0] 37)) := ((Below.refl _ _).alloc (Nat.le_refl _) _).alloc (by simp) _
  clear hz
  go_enter Tryd.func30, Tryd.ntmps30
  go_upto_region 1 with fail
  generalize (w.alloc (.cells #[.slice A n c] 24)).alloc (.cells #[.int .i64 0, .slice none 0 0] 37) = W at *
  go_wp2_with fail
  go_loopw [3, 4] (fun v i wr => ∃ K : Nat, K ≤ n ∧ i = .int .i64 K ∧ wr.ownsRow (w.heap.size + 2) 3 1 v (tl F true K).length (vals (tl F true K)) ∧ RelAt wr w.heap.size A n c ∧ SetAt wr (w.heap.size + 1) 0 none 0 0 ∧ Below w.heap.size w wr) (fun _ i _ => n - (intOf i).toNat)
  case atStart => exact ⟨0, Nat.zero_le _, rfl, ⟨rfl, .inl ⟨rfl, rfl⟩⟩, r0, s0, b0⟩
  case round =>
    clear s0 b0 r0
    obtain ⟨K, hK, rfl, hown, hR, hS, hB⟩ := hrel
    have c0 := hR.c0
    by_cases hlt : K < n
    · have hwrap : IntKind.i64.wrap ((K : Int) + 1) = (K : Int) + 1 := IntWalk.i64_in _ (by omega)
      have hll := tl_len F true K
      have HC := Lib.hid (HCL.out K hlt wr hB)
      obtain ⟨vb, hvb⟩ : ∃ v, F K = v := ⟨_, rfl⟩
      rw [hvb] at HC
      go_wp2_with fail
      refine HC.out.mono ?_; rintro e w2 ⟨rfl, b2⟩
      have hown2 := own_below hown b2
      have hR2 := hR.below b2
      have hS2 := hS.below b2
      have hB2 := below_next hB b2
      have hsl := hS2.lt
      clear hown hS hR hB b2 HC c0
      cases vb with
      | true =>
        have hst : Hid (tl F true (K + 1) = tl F true K ++ [K]) := tl_yes hvb
        obtain ⟨l, hl⟩ : ∃ l, l = tl F true K := ⟨_, rfl⟩
        rw [← hl] at hown2 hst hll
        clear hl hvb
        have hownA := hown2.alloc (.cells #[.int .i64 (K : Int)] 3)
        have hSA := hS2.alloc (.cells #[.int .i64 (K : Int)] 3)
        have hRA := hR2.alloc (.cells #[.int .i64 (K : Int)] 3)
        go_wp2_with (at_builtin; refine append_nat rfl (.tmp 16) (.tmp 18) rfl (w.heap.size + 2) _ l K K _ rfl hownA w2.heap.size rfl (heap_alloc_new _ _) rfl (by omega) (by simp; omega) ?_; intro g9 c9 w9 hown9 hg9 hat9)
        go_roundw
        case rel => exact ⟨K + 1, hlt, by go_num, by rw [hst.out, List.length_append]; exact hown9, (hg9.block _ hRA.lt (fun e => by have := (hown2.lt _ e.symm).1; omega)).trans hRA, (hg9.block _ hSA.lt (fun e => by have := (hown2.lt _ e.symm).1; omega)).trans hSA, grown_below hB2 hown2 (by omega) hg9⟩
        case measure => simp [intOf]; omega
      | false =>
        have hst : Hid (tl F true (K + 1) = tl F true K) := tl_no (by rw [hvb]; exact Bool.false_ne_true)
        clear hvb
        go_wp2_with fail
        go_roundw
        case rel => exact ⟨K + 1, hlt, by go_num, by rw [hst.out]; exact hown2, hR2, hS2, hB2⟩
        case measure => simp [intOf]; omega
    · obtain rfl : K = n := by omega
      have hsl := hS.lt
      have hll := tl_len F true K
      have HO := Lib.hid (ofr_list K u3 (w.heap.size + 2) (tl F true K) wr hn hown (by omega) (fun x hx => (tl_mem.1 hx).1))
      unfold SetNew at HO
      generalize hmw : (K + 63) / 64 = mw at *
      have HMW := Lib.hid hmw
      clear hmw hown
      go_wp2_with fail
      refine HO.out.mono ?_; rintro e w4 ⟨g, rfl, hg, hrow, b4⟩
      have s4 := hS.below b4
      have B4 := below_next hB b4
      have k0 := s4.c0
      have k1 := s4.c1
      have f0 := s4.free 0
      have f1 := s4.free 1
      have hgne : g ≠ w.heap.size + 1 := by omega
      have s5 := setAt_put (N' := (K : Int)) (A' := some ⟨g, 0, none⟩) (l' := mw) (c' := mw) s4
      have j0 := s5.c0
      have j1 := s5.c1
      have HROW := Lib.hid ((hrow.setOther (a := ⟨w.heap.size + 1, 0, none⟩) (by exact hgne) (.int .i64 (K : Int))).setOther (a := ⟨w.heap.size + 1, 1, none⟩) (by exact hgne) (.slice (some ⟨g, 0, none⟩) mw mw))
      have B5 := Lib.hid ((B4.setCell (p := ⟨w.heap.size + 1, 0, none⟩) (by show w.heap.size ≤ w.heap.size + 1; omega) (.int .i64 (K : Int))).setCell (p := ⟨w.heap.size + 1, 1, none⟩) (by show w.heap.size ≤ w.heap.size + 1; omega) (.slice (some ⟨g, 0, none⟩) mw mw))
      have hgw : w.heap.size ≤ g := by omega
      clear hR hS s4 s5 c0 b4 hrow HO hB B4
      go_wp2_with fail
      refine bodyPost_ret (v := .agg #[.int .i64 K, .slice (some ⟨g, 0, none⟩) mw mw]) (by simp [results, Tryd.results30, go_sem, j0, j1]) rfl ?_
      exact ⟨g, by rw [HMW.out], hgw, by rw [HMW.out]; exact HROW.out, B5.out⟩
theorem rminl_any (A : Option Addr) (n c : Nat) (R : Nat → RowD) (w : World) (h : Rel w A n R) (hv : VRel n R) : Calls Tryd.prog 29 #[.agg #[.slice A n c]] w (SetEnd w n (setF (tl (minT n (mat R)) true n))) :=
  rlist29 A n c (minT n (mat R)) w hv.1 fun i hi u hu => below_any A n c i R u (h.below hu) hv hi
theorem rmaxl_any (A : Option Addr) (n c : Nat) (R : Nat → RowD) (w : World) (h : Rel w A n R) (hv : VRel n R) : Calls Tryd.prog 30 #[.agg #[.slice A n c]] w (SetEnd w n (setF (tl (maxT n (mat R)) true n))) :=
  rlist30 A n c (maxT n (mat R)) w hv.1 fun i hi u hu => above_any A n c i R u (h.below hu) hv hi
end Go.Proofs.YtakjdihhbndcnaaDoor
