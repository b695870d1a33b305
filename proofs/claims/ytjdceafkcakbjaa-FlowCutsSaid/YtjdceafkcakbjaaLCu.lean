/- FlowCuts: the law's own text, walked: it returns true for all networks and ends. -/
import Derived.Test.YtjdceafkcakbjaaLMx
import Derived.Test.YtjdceafkcakbjaaFRCu
namespace Go.Proofs.Ytjdceafkcakbjaa
open Go.RowKit Go.Sort
def CuP (N s t : Int) (m c : Nat) (A : Option Addr) (w : World) : Prop := Calls Try.prog 5 #[.agg #[.int .i64 N, .slice A m c], .int .i64 s, .int .i64 t] w fun e w' => e = .returned (.bool true) ∧ Below w.heap.size w w'
theorem cu_few (N s t : Int) (m c : Nat) (A : Option Addr) (w : World) (hf : ¬ Few N m) : CuP N s t m c A w := by
  have HFEW := Lib.hid hf; clear hf
  have n0 := netAt_new w N A m c
  have b0 := below_new w (.cells #[.int .i64 N, .slice A m c] 24)
  have c0 := n0.c0
  have c1 := n0.c1
  go_enter Try.func5, Try.ntmps5
  go_wp2_with fail
  refine (awake_any _).mono ?_; rintro e w1 ⟨rfl, b1⟩
  have n1 := n0.below b1
  have B1 := below_next b0 b1
  clear n0 b0 b1 c0 c1
  have c0 := n1.c0
  have c1 := n1.c1
  go_wp2_with fail
  refine (few_any N A m c false _ (no_iff HFEW.out)).mono ?_; rintro e w2 ⟨rfl, b2⟩
  have B2 := below_next B1 b2
  go_wp2_with fail
  go_ret
  exact ⟨rfl, B2⟩
theorem cu_err (N s t er : Int) (m c : Nat) (A : Option Addr) (E : Nat → EdgeD) (w : World) (h : Edges w A m E) (hf : Few N m) (hx : (¬ VNet N m E ∧ er = 1) ∨ (VNet N m E ∧ ¬ Pair N s t ∧ er = 2)) : CuP N s t m c A w := by
  have M : Hid (∀ u, Below w.heap.size w u → Calls Try.prog 21 #[.agg #[.int .i64 N, .slice A m c], .int .i64 s, .int .i64 t] u fun e w' => e = .returned (.tuple #[.agg #[.int .i64 0, .slice none 0 0], .int .i64 0, .int .i64 er]) ∧ Below u.heap.size u w') := fun u hu => cut_err N s t er A m c E u (h.below hu) hx
  have HFEW := Lib.hid hf; clear hf
  rcases hx with ⟨hv, rfl⟩ | ⟨hv, hp, rfl⟩
  · have V : Hid (∀ u, Below w.heap.size w u → Calls Try.prog 13 #[.agg #[.int .i64 N, .slice A m c]] u fun e w' => e = .returned (.bool false) ∧ Below u.heap.size u w') := fun u hu => refValid_n N A m c E u (h.below hu) hv
    clear h hv
    have n0 := netAt_new w N A m c
    have b0 := below_new w (.cells #[.int .i64 N, .slice A m c] 24)
    have c0 := n0.c0
    have c1 := n0.c1
    go_enter Try.func5, Try.ntmps5
    go_wp2_with fail
    refine (awake_any _).mono ?_; rintro e w1 ⟨rfl, b1⟩
    have n1 := n0.below b1
    have B1 := below_next b0 b1
    clear n0 b0 b1 c0 c1
    have c0 := n1.c0
    have c1 := n1.c1
    go_wp2_with fail
    refine (few_any N A m c true _ (yes_iff HFEW.out)).mono ?_; rintro e w2 ⟨rfl, b2⟩
    have n2 := n1.below b2
    have B2 := below_next B1 b2
    clear n1 B1 b2 c0 c1
    have c0 := n2.c0
    have c1 := n2.c1
    go_wp2_with fail
    refine (M.out _ B2).mono ?_; rintro e w3 ⟨rfl, b3⟩
    have n3 := (n2.below b3).alloc (.cells #[.int .i64 0, .slice none 0 0] 28)
    have B3 := (below_next B2 b3).alloc (below_next B2 b3).size (.cells #[.int .i64 0, .slice none 0 0] 28)
    have s3 := setAt_new w3 0 none 0 0
    clear n2 B2 b3 c0 c1
    have c0 := n3.c0
    have c1 := n3.c1
    go_upto_region 6 with fail
    generalize w3.alloc (.cells #[.int .i64 0, .slice none 0 0] 28) = W3 at *
    go_wp2_with fail
    refine (V.out _ B3).mono ?_; rintro e w4 ⟨rfl, b4⟩
    have B4 := below_next B3 b4
    have s4 := s3.below b4
    clear n3 s3 B3 b4 c0 c1 M V
    have d0 := s4.c0
    have d1 := s4.c1
    go_wp2_with fail
    refine (none_yes _).mono ?_; rintro e w5 ⟨rfl, b5⟩
    have B5 := below_next B4 b5
    clear s4 B4 b5 d0 d1
    go_wp2_with fail
    go_ret
    exact ⟨rfl, B5⟩
  · have V : Hid (∀ u, Below w.heap.size w u → Calls Try.prog 13 #[.agg #[.int .i64 N, .slice A m c]] u fun e w' => e = .returned (.bool true) ∧ Below u.heap.size u w') := fun u hu => refValid_y N A m c E u (h.below hu) hv
    have EE : Hid (∀ u, Below w.heap.size w u → Calls Try.prog 17 #[.agg #[.int .i64 N, .slice A m c], .int .i64 s, .int .i64 t] u fun e w' => e = .returned (.bool false) ∧ Below u.heap.size u w') := fun u _ => ends_any N s t A m c false u ⟨fun e => (by cases e), fun e => absurd e hp⟩
    clear h hv hp
    have n0 := netAt_new w N A m c
    have b0 := below_new w (.cells #[.int .i64 N, .slice A m c] 24)
    have c0 := n0.c0
    have c1 := n0.c1
    go_enter Try.func5, Try.ntmps5
    go_wp2_with fail
    refine (awake_any _).mono ?_; rintro e w1 ⟨rfl, b1⟩
    have n1 := n0.below b1
    have B1 := below_next b0 b1
    clear n0 b0 b1 c0 c1
    have c0 := n1.c0
    have c1 := n1.c1
    go_wp2_with fail
    refine (few_any N A m c true _ (yes_iff HFEW.out)).mono ?_; rintro e w2 ⟨rfl, b2⟩
    have n2 := n1.below b2
    have B2 := below_next B1 b2
    clear n1 B1 b2 c0 c1
    have c0 := n2.c0
    have c1 := n2.c1
    go_wp2_with fail
    refine (M.out _ B2).mono ?_; rintro e w3 ⟨rfl, b3⟩
    have n3 := (n2.below b3).alloc (.cells #[.int .i64 0, .slice none 0 0] 28)
    have B3 := (below_next B2 b3).alloc (below_next B2 b3).size (.cells #[.int .i64 0, .slice none 0 0] 28)
    have s3 := setAt_new w3 0 none 0 0
    clear n2 B2 b3 c0 c1
    have c0 := n3.c0
    have c1 := n3.c1
    go_upto_region 6 with fail
    generalize w3.alloc (.cells #[.int .i64 0, .slice none 0 0] 28) = W3 at *
    go_wp2_with fail
    refine (V.out _ B3).mono ?_; rintro e w4 ⟨rfl, b4⟩
    have n4 := n3.below b4
    have s4 := s3.below b4
    have B4 := below_next B3 b4
    clear n3 s3 B3 b4 c0 c1 M V
    have c0 := n4.c0
    have c1 := n4.c1
    go_wp2_with fail
    refine (EE.out _ B4).mono ?_; rintro e w5 ⟨rfl, b5⟩
    have B5 := below_next B4 b5
    have s5 := s4.below b5
    clear n4 s4 B4 b5 c0 c1
    have d0 := s5.c0
    have d1 := s5.c1
    go_wp2_with fail
    refine (none_yes _).mono ?_; rintro e w6 ⟨rfl, b6⟩
    have B6 := below_next B5 b6
    clear s5 B5 b6 d0 d1
    go_wp2_with fail
    go_ret
    exact ⟨rfl, B6⟩
theorem cut_words {n m s t : Nat} {E : Nat → EdgeD} {R F : Nat → Int} {l : List Nat} {B : Nat → Bool} (hv : VNet n m E) (h1 : (netOf n m E).Done s t R) (h2 : (netOf n m E).Done s t (resid (netOf n m E).cp F)) (hs : s < n)
    (hl : ∀ v, v ∈ l ↔ v < n ∧ (netOf n m E).Reach R s v) (hB : ∀ v, B v = true ↔ (netOf n m E).Reach (resid (netOf n m E).cp F) s v) : ∀ k, k < (n + 63) / 64 → setF l k = bw B n k :=
  bt_ext (setF_u64 l _) (bw_u64 B _ n) (fun i _ => by
    rw [Bool.eq_iff_iff, setF_bt, bw_bt, hl, hB]
    exact ⟨fun ⟨a, b⟩ => ⟨a, done_reach hv.ok h1 h2 hs i b⟩, fun ⟨a, b⟩ => ⟨a, done_reach hv.ok h2 h1 hs i b⟩⟩)
/- what flow.Cut returns, with names of its own -/
def CutM (w : World) (n m mw s t : Nat) (E : Nat → EdgeD) (e : Ending) (w' : World) : Prop :=
  ∃ g l R V, e = .returned (.tuple #[.agg #[.int .i64 n, .slice (some ⟨g, 0, none⟩) mw mw], .int .i64 V, .int .i64 0]) ∧ w'.rowIs g 61 mw (fun k => .int .u64 (setF l k : Nat)) ∧
    (netOf n m E).Done s t R ∧ (∀ v, v ∈ l ↔ v < n ∧ (netOf n m E).Reach R s v) ∧ V = (netOf n m E).capS (bt (setF l)) ∧ w.heap.size ≤ g ∧ Below w.heap.size w w'
def RCutM (w : World) (n mw : Nat) (f : Nat → Nat) (e : Ending) (w' : World) : Prop :=
  ∃ g, e = .returned (.agg #[.int .i64 n, .slice (some ⟨g, 0, none⟩) mw mw]) ∧ w'.rowIs g 61 mw (fun k => .int .u64 (f k : Nat)) ∧ w.heap.size ≤ g ∧ Below w.heap.size w w'
set_option maxHeartbeats 4000000 in
theorem cu_ok (n s t m c : Nat) (A : Option Addr) (E : Nat → EdgeD) (w : World) (h : Edges w A m E) (hf : Few n m) (hv : VNet n m E) (hs : s < n) (ht : t < n) (hst : s ≠ t) : CuP n s t m c A w := by
  have hp : Pair n s t := ⟨by omega, by omega, by omega⟩
  have hn5 : n ≤ 512 := by have := hv.2.1; omega
  obtain ⟨mw, hmw⟩ : ∃ mw, (n + 63) / 64 = mw := ⟨_, rfl⟩
  have V : Hid (∀ u, Below w.heap.size w u → Calls Try.prog 13 #[.agg #[.int .i64 n, .slice A m c]] u fun e w' => e = .returned (.bool true) ∧ Below u.heap.size u w') := fun u hu => refValid_y n A m c E u (h.below hu) hv
  have EE : Hid (∀ u, Below w.heap.size w u → Calls Try.prog 17 #[.agg #[.int .i64 n, .slice A m c], .int .i64 s, .int .i64 t] u fun e w' => e = .returned (.bool true) ∧ Below u.heap.size u w') := fun u _ => ends_any n s t A m c true u ⟨fun _ => hp, fun _ => rfl⟩
  have M : Hid (∀ u, Below w.heap.size w u → Calls Try.prog 21 #[.agg #[.int .i64 n, .slice A m c], .int .i64 s, .int .i64 t] u (CutM u n m mw s t E)) := fun u hu => (cut_ok n m c s t A E u (h.below hu) hv hs ht hst).mono fun e w' h => by
    obtain ⟨g, l, R, h1, h2, h3, h4, h5, h6⟩ := h
    rw [hmw] at h1 h2
    exact ⟨g, l, R, _, h1, h2, h3, h4, rfl, h5, h6⟩
  have RC : Hid (∀ l R, (netOf n m E).Done s t R → (∀ v, v ∈ l ↔ v < n ∧ (netOf n m E).Reach R s v) → ∀ u, Below w.heap.size w u → Calls Try.prog 23 #[.agg #[.int .i64 n, .slice A m c], .int .i64 s, .int .i64 t] u (RCutM u n mw (setF l))) := fun l R hd hl u hu => (refCut_any n m c s t A E u (h.below hu) hv hs ht hst).mono fun e w' h => by
    obtain ⟨g, B, F, h1, h2, h3, h4, h5, h6⟩ := h
    have hw := cut_words hv hd h3 hs hl h4
    rw [hmw] at h1 h2 hw
    exact ⟨g, h1, h2.congr fun k hk => by rw [hw k hk], h5, h6⟩
  have C1 : Hid (∀ l g g2 u, u.rowIs g 61 mw (fun k => .int .u64 (setF l k : Nat)) → u.rowIs g2 61 mw (fun k => .int .u64 (setF l k : Nat)) → Calls Try.prog 24 #[.agg #[.int .i64 n, .slice (some ⟨g, 0, none⟩) mw mw], .agg #[.int .i64 n, .slice (some ⟨g2, 0, none⟩) mw mw]] u fun e w' => e = .returned (.bool true) ∧ Below u.heap.size u w') := fun l g g2 u h1 h2 =>
    refSame_yes n _ _ mw mw mw (setF l) u (row_wds h1 (setF_u64 l mw)) (row_wds h2 (setF_u64 l mw)) (by omega)
  have C2 : Hid (∀ l g2 u V, u.rowIs g2 61 mw (fun k => .int .u64 (setF l k : Nat)) → V = (netOf n m E).capS (bt (setF l)) → Below w.heap.size w u → Calls Try.prog 25 #[.agg #[.int .i64 n, .slice A m c], .agg #[.int .i64 n, .slice (some ⟨g2, 0, none⟩) mw mw]] u fun e w' => e = .returned (.int .i64 V) ∧ Below u.heap.size u w') := fun l g2 u V h2 hV hu => by
    rw [hV]
    exact refCap_any n m c A E (some ⟨g2, 0, none⟩) mw mw (setF l) u (h.below hu) hv (row_wds h2 (setF_u64 l mw)) hmw.symm
  have HFEW := Lib.hid hf
  clear hf hv hs ht hst hp h hmw hn5
  have n0 := netAt_new w n A m c
  have b0 := below_new w (.cells #[.int .i64 n, .slice A m c] 24)
  have c0 := n0.c0
  have c1 := n0.c1
  go_enter Try.func5, Try.ntmps5
  go_wp2_with fail
  refine (awake_any _).mono ?_; rintro e w1 ⟨rfl, b1⟩
  have n1 := n0.below b1
  have B1 := below_next b0 b1
  clear n0 b0 b1 c0 c1
  have c0 := n1.c0
  have c1 := n1.c1
  go_wp2_with fail
  refine (few_any n A m c true _ (yes_iff HFEW.out)).mono ?_; rintro e w2 ⟨rfl, b2⟩
  have n2 := n1.below b2
  have B2 := below_next B1 b2
  clear n1 B1 b2 c0 c1
  have c0 := n2.c0
  have c1 := n2.c1
  go_wp2_with fail
  refine (M.out _ B2).mono ?_; rintro e w3 ⟨g, l, R, VV, rfl, hrow, hdn, hl, hV, hg, b3⟩
  have RC2 := Lib.hid (RC.out l R hdn hl)
  have HV2 := Lib.hid hV
  have n3 := (n2.below b3).alloc (.cells #[.int .i64 n, .slice (some ⟨g, 0, none⟩) mw mw] 28)
  have B3 := (below_next B2 b3).alloc (below_next B2 b3).size (.cells #[.int .i64 n, .slice (some ⟨g, 0, none⟩) mw mw] 28)
  have s3 := setAt_new w3 n (some ⟨g, 0, none⟩) mw mw
  have r3 := hrow.alloc (.cells #[.int .i64 n, .slice (some ⟨g, 0, none⟩) mw mw] 28)
  clear n2 B2 b3 c0 c1 hrow hdn hl hV RC M
  have c0 := n3.c0
  have c1 := n3.c1
  go_upto_region 6 with fail
  generalize w3.alloc (.cells #[.int .i64 (n : Int), .slice (some ⟨g, 0, none⟩) mw mw] 28) = W3 at *
  go_wp2_with fail
  refine (V.out _ B3).mono ?_; rintro e w4 ⟨rfl, b4⟩
  have n4 := n3.below b4
  have s4 := s3.below b4
  have r4 := row_below r3 b4
  have B4 := below_next B3 b4
  clear n3 s3 r3 B3 b4 c0 c1
  have c0 := n4.c0
  have c1 := n4.c1
  go_wp2_with fail
  refine (EE.out _ B4).mono ?_; rintro e w5 ⟨rfl, b5⟩
  have n5 := n4.below b5
  have s5 := s4.below b5
  have r5 := row_below r4 b5
  have B5 := below_next B4 b5
  clear n4 s4 r4 B4 b5 c0 c1 V EE
  have c0 := n5.c0
  have c1 := n5.c1
  go_wp2_with fail
  refine (RC2.out _ B5).mono ?_; rintro e w6 ⟨g2, rfl, q2, hg2, b6⟩
  have n6 := (n5.below b6).alloc (.cells #[.int .i64 n, .slice (some ⟨g2, 0, none⟩) mw mw] 28)
  have s6 := (s5.below b6).alloc (.cells #[.int .i64 n, .slice (some ⟨g2, 0, none⟩) mw mw] 28)
  have r6 := (row_below r5 b6).alloc (.cells #[.int .i64 n, .slice (some ⟨g2, 0, none⟩) mw mw] 28)
  have q6 := q2.alloc (.cells #[.int .i64 n, .slice (some ⟨g2, 0, none⟩) mw mw] 28)
  have t6 := setAt_new w6 n (some ⟨g2, 0, none⟩) mw mw
  have B6 := (below_next B5 b6).alloc (below_next B5 b6).size (.cells #[.int .i64 n, .slice (some ⟨g2, 0, none⟩) mw mw] 28)
  clear n5 s5 r5 B5 b6 c0 c1 q2 RC2
  go_upto_region 11 with fail
  generalize w6.alloc (.cells #[.int .i64 (n : Int), .slice (some ⟨g2, 0, none⟩) mw mw] 28) = W6 at *
  have c0 := s6.c0
  have c1 := s6.c1
  have d0 := t6.c0
  have d1 := t6.c1
  go_wp2_with fail
  refine (C1.out l _ _ _ r6 q6).mono ?_; rintro e w7 ⟨rfl, b7⟩
  have n7 := n6.below b7
  have t7 := t6.below b7
  have q7 := row_below q6 b7
  have B7 := below_next B6 b7
  clear n6 s6 t6 r6 q6 B6 b7 c0 c1 d0 d1 C1
  have c0 := n7.c0
  have c1 := n7.c1
  have d0 := t7.c0
  have d1 := t7.c1
  go_wp2_with fail
  refine (C2.out l _ _ VV q7 HV2.out B7).mono ?_; rintro e w8 ⟨rfl, b8⟩
  have B8 := below_next B7 b8
  have hb8 : (VV == VV) = true := by simp
  clear n7 t7 q7 B7 b8 c0 c1 d0 d1 C2
  go_wp2_with fail
  go_ret
  exact ⟨rfl, B8⟩
theorem cu_law (N s t : Int) (m c : Nat) (A : Option Addr) (E : Nat → EdgeD) (w : World) (h : Edges w A m E) : CuP N s t m c A w := by
  by_cases hf : Few N m
  · by_cases hv : VNet N m E
    · by_cases hp : Pair N s t
      · obtain ⟨n, rfl⟩ := Int.eq_ofNat_of_zero_le (show 0 ≤ N by have := hv.1; omega)
        obtain ⟨s, rfl⟩ := Int.eq_ofNat_of_zero_le hp.2.1.1
        obtain ⟨t, rfl⟩ := Int.eq_ofNat_of_zero_le hp.2.2.1
        exact cu_ok n s t m c A E w h hf hv (by have := hp.2.1.2; omega) (by have := hp.2.2.2; omega) (fun e => hp.1 (by rw [e]))
      · exact cu_err N s t 2 m c A E w h hf (Or.inr ⟨hv, hp, rfl⟩)
    · exact cu_err N s t 1 m c A E w h hf (Or.inl ⟨hv, rfl⟩)
  · exact cu_few N s t m c A w hf
end Go.Proofs.Ytjdceafkcakbjaa
