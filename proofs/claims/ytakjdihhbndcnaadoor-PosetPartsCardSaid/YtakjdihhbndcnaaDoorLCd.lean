/- The law PosetClosed: the walk. -/
import Derived.Test.YtakjdihhbndcnaaDoorMGe
import Derived.Test.YtakjdihhbndcnaaDoorPLes
namespace Go.Proofs.YtakjdihhbndcnaaDoor
open Go.RowKit Go.Sort
/- mathematics -/
theorem dwn_iff {n : Nat} {T : Nat → Nat → Bool} {s : Nat → Nat} {i : Nat} : dwn n T s i = true ↔ bt s i = true ∨ ∃ k, k < n ∧ bt s k = true ∧ T i k = true := by
  unfold dwn
  rw [Bool.or_eq_true, List.any_eq_true]
  constructor
  · rintro (h | ⟨k, hk, h⟩)
    · exact .inl h
    · rw [Bool.and_eq_true] at h; exact .inr ⟨k, List.mem_range.1 hk, h.2, h.1⟩
  · rintro (h | ⟨k, hk, h1, h2⟩)
    · exact .inl h
    · exact .inr ⟨k, List.mem_range.2 hk, by rw [h1, h2]; rfl⟩
theorem upT_iff {n : Nat} {T : Nat → Nat → Bool} {s : Nat → Nat} {i : Nat} : upT n T s i = true ↔ bt s i = true ∨ ∃ k, k < n ∧ bt s k = true ∧ T k i = true := by
  unfold upT
  rw [Bool.or_eq_true, List.any_eq_true]
  constructor
  · rintro (h | ⟨k, hk, h⟩)
    · exact .inl h
    · rw [Bool.and_eq_true] at h; exact .inr ⟨k, List.mem_range.1 hk, h.1, h.2⟩
  · rintro (h | ⟨k, hk, h1, h2⟩)
    · exact .inl h
    · exact .inr ⟨k, List.mem_range.2 hk, by rw [h1, h2]; rfl⟩
theorem setT_bt {n : Nat} {F : Nat → Bool} {j : Nat} (hj : j < n) : bt (setF (tl F true n)) j = F j := by
  rw [Bool.eq_iff_iff, setF_bt, tl_mem]
  exact ⟨fun h => h.2, fun h => ⟨hj, h⟩⟩
theorem tl_ext {n : Nat} {F G : Nat → Bool} (h : ∀ j, j < n → F j = G j) : setF (tl F true n) = setF (tl G true n) :=
  setF_eq fun x => by
    rw [tl_mem, tl_mem]
    exact ⟨fun h2 => ⟨h2.1, (h x h2.1) ▸ h2.2⟩, fun h2 => ⟨h2.1, (h x h2.1).symm ▸ h2.2⟩⟩
theorem dwn_dwn {n : Nat} {T : Nat → Nat → Bool} {s : Nat → Nat} (hP : ∀ i, i < n → POk n T i) {i : Nat} (hi : i < n) : dwn n T (setF (tl (dwn n T s) true n)) i = dwn n T s i := by
  refine bool_ext ?_
  rw [dwn_iff, setT_bt hi, dwn_iff]
  constructor
  · rintro (h | ⟨k, hk, h1, h2⟩)
    · exact h
    · rw [setT_bt hk, dwn_iff] at h1
      rcases h1 with h1 | ⟨q, hq, h3, h4⟩
      · exact .inr ⟨k, hk, h1, h2⟩
      · exact .inr ⟨q, hq, h3, (hP i hi).2 k hk h2 q hq h4⟩
  · exact .inl
theorem upT_upT {n : Nat} {T : Nat → Nat → Bool} {s : Nat → Nat} (hP : ∀ i, i < n → POk n T i) {i : Nat} (hi : i < n) : upT n T (setF (tl (upT n T s) true n)) i = upT n T s i := by
  refine bool_ext ?_
  rw [upT_iff, setT_bt hi, upT_iff]
  constructor
  · rintro (h | ⟨k, hk, h1, h2⟩)
    · exact h
    · rw [setT_bt hk, upT_iff] at h1
      rcases h1 with h1 | ⟨q, hq, h3, h4⟩
      · exact .inr ⟨k, hk, h1, h2⟩
      · exact .inr ⟨q, hq, h3, (hP q hq).2 k hk h4 i hi h2⟩
  · exact .inl
theorem up_out {n : Nat} {T : Nat → Nat → Bool} {s : Nat → Nat} (hP : ∀ i, i < n → POk n T i) {i : Nat} (hi : i < n) : upT n T (setF (tl (dwn n T s) false n)) i = !dwn n T s i := by
  have hb : ∀ j, j < n → bt (setF (tl (dwn n T s) false n)) j = !dwn n T s j := fun j hj => by
    rw [Bool.eq_iff_iff, setF_bt, tl_mem, Bool.not_eq_true']
    exact ⟨fun h => h.2, fun h => ⟨hj, h⟩⟩
  refine bool_ext ?_
  rw [upT_iff, hb i hi]
  constructor
  · rintro (h | ⟨k, hk, h1, h2⟩)
    · exact h
    · rw [hb k hk] at h1
      rw [Bool.not_eq_true'] at h1 ⊢
      cases hd : dwn n T s i with
      | false => rfl
      | true =>
        have : dwn n T s k = true := by
          rw [dwn_iff] at hd ⊢
          rcases hd with h | ⟨q, hq, h3, h4⟩
          · exact .inr ⟨i, hi, h, h2⟩
          · exact .inr ⟨q, hq, h3, (hP k hk).2 i hi h2 q hq h4⟩
        rw [this] at h1; cases h1
  · exact .inl
set_option maxRecDepth 100000 in
set_option maxHeartbeats 8000000 in
theorem cd_law (A : Option Addr) (n c : Nat) (R : Nat → RowD) (N : Int) (S : Option Addr) (l cs : Nat) (s : Nat → Nat) (w : World) (ha : Rel w A n R) (hs : Wds w S l s) (hT : Tab w) :
    Calls Tryd.prog 8 #[.agg #[.slice A n c], .agg #[.int .i64 N, .slice S l cs]] w fun e w' => e = .returned (.bool true) ∧ Below w.heap.size w w' := by
  have HR := Lib.hid ha
  have HS := Lib.hid hs
  clear ha hs
  have hT0 := sb_new w A n c N S l cs
  go_enter Tryd.func8, Tryd.ntmps8
  go_upto_region 1 with fail
  generalize (w.alloc (.cells #[.slice A n c] 24)).alloc (.cells #[.int .i64 N, .slice S l cs] 37) = W at *
  go_wp2_with fail
  refine (awake_any W (hT.below hT0.f)).mono ?_; rintro e w1 ⟨rfl, b1⟩
  have hT1 := hT0.next b1
  clear hT0 b1
  obtain ⟨v1, hv1⟩ : ∃ v : Bool, v = true ↔ Few n R := ⟨@decide _ (Classical.propDecidable _), @decide_eq_true_iff _ (Classical.propDecidable _)⟩
  have HF1 := Lib.hid (few_any A n c R v1 w1 (HR.out.below hT1.f) hv1)
  have HV1 := Lib.hid hv1
  clear hv1
  have c0 := hT1.a.c0
  go_wp2_with fail
  refine HF1.out.mono ?_; rintro e w2 ⟨rfl, b2⟩
  have hT2 := hT1.next b2
  clear hT1 b2 c0 HF1
  cases v1 with
  | false =>
    go_wp2_with fail
    refine (awake_any w2 (hT.below hT2.f)).mono ?_; rintro e w3 ⟨rfl, b3⟩
    go_wp2_with fail
    go_ret
    exact ⟨rfl, below_next hT2.f b3⟩
  | true =>
    have hn := (HV1.out.1 (by first | rfl | exact trivial)).1
    clear HV1
    obtain ⟨vp, hvp⟩ : ∃ v : Bool, v = true ↔ POrd n R := ⟨@decide _ (Classical.propDecidable _), @decide_eq_true_iff _ (Classical.propDecidable _)⟩
    have HVP := Lib.hid hvp
    have HV := Lib.hid (rpvalid_any A n c R vp w2 (HR.out.below hT2.f) (by omega) hvp)
    clear hvp
    have c0 := hT2.a.c0
    go_wp2_with fail
    refine HV.out.mono ?_; rintro e w3 ⟨rfl, b3⟩
    have hT3 := hT2.next b3
    clear hT2 b3 c0 HV
    cases vp with
    | false =>
      go_wp2_with fail
      refine (awake_any w3 (hT.below hT3.f)).mono ?_; rintro e w4 ⟨rfl, b4⟩
      go_wp2_with fail
      go_ret
      exact ⟨rfl, below_next hT3.f b4⟩
    | true =>
      have hP := HVP.out.1 (by first | rfl | exact trivial)
      have HP := Lib.hid hP
      clear HVP hP
      obtain ⟨vs, hvs⟩ : ∃ v : Bool, v = true ↔ SetP n N l s := ⟨@decide _ (Classical.propDecidable _), @decide_eq_true_iff _ (Classical.propDecidable _)⟩
      have HVS := Lib.hid hvs
      have HST := Lib.hid (rset_any A S n c l cs N s vs w3 (HS.out.below hT3.f) hvs)
      clear hvs
      have c0 := hT3.a.c0
      have c1 := hT3.s.c0
      have c2 := hT3.s.c1
      go_wp2_with fail
      clear c0 c1 c2
      refine HST.out.mono ?_; rintro e w4 ⟨rfl, b4⟩
      have hT4 := hT3.next b4
      clear hT3 b4 HST
      cases vs with
      | false =>
        go_wp2_with fail
        refine (awake_any w4 (hT.below hT4.f)).mono ?_; rintro e w5 ⟨rfl, b5⟩
        go_wp2_with fail
        go_ret
        exact ⟨rfl, below_next hT4.f b5⟩
      | true =>
        obtain ⟨hN, hVs⟩ := HVS.out.1 (by first | rfl | exact trivial)
        clear HVS
        subst hN
        obtain rfl : l = (n + 63) / 64 := by have := hVs.2.2.1; simpa using this
        have HVS := Lib.hid hVs
        obtain ⟨mw, hmw⟩ : ∃ mw, (n + 63) / 64 = mw := ⟨_, rfl⟩
        have HMW := Lib.hid hmw
        obtain ⟨Fd, hFd⟩ : ∃ F, dwn n (mat R) s = F := ⟨_, rfl⟩
        obtain ⟨Fu, hFu⟩ : ∃ F, upT n (mat R) s = F := ⟨_, rfl⟩
        obtain ⟨f1, hf1⟩ : ∃ f, setF (tl Fd true n) = f := ⟨_, rfl⟩
        obtain ⟨f2, hf2⟩ : ∃ f, setF (tl Fu true n) = f := ⟨_, rfl⟩
        have hv1 : Hid (Vld (n : Int) mw f1 ∧ U64 f1 mw) := Lib.hid ⟨by rw [← hmw, ← hf1]; exact setF_vld HP.out.1.1 (fun x hx => (tl_mem.1 hx).1), by rw [← hf1]; exact setF_u64 _ _⟩
        have hv2 : Hid (Vld (n : Int) mw f2 ∧ U64 f2 mw) := Lib.hid ⟨by rw [← hmw, ← hf2]; exact setF_vld HP.out.1.1 (fun x hx => (tl_mem.1 hx).1), by rw [← hf2]; exact setF_u64 _ _⟩
        have hb1 : Hid (∀ j, j < n → bt f1 j = Fd j) := Lib.hid fun j hj => by rw [← hf1]; exact setT_bt hj
        have hb2 : Hid (∀ j, j < n → bt f2 j = Fu j) := Lib.hid fun j hj => by rw [← hf2]; exact setT_bt hj
        have hi1 : Hid (∀ i, Fd i = true ↔ bt s i = true ∨ ∃ k, k < n ∧ bt s k = true ∧ mat R i k = true) := Lib.hid fun i => by rw [← hFd]; exact dwn_iff
        have hi2 : Hid (∀ i, Fu i = true ↔ bt s i = true ∨ ∃ k, k < n ∧ bt s k = true ∧ mat R k i = true) := Lib.hid fun i => by rw [← hFu]; exact upT_iff
        have h1 : Hid (∀ u, Below w.heap.size w u → Calls Tryd.prog 33 #[.agg #[.slice A n c], .agg #[.int .i64 n, .slice S mw cs]] u (SetOk u n mw f1)) := Lib.hid fun u hu => by
          have h := down_ok A S n c cs R s u (HR.out.below hu) (hT.below hu) HP.out (HS.out.below hu) HVS.out
          unfold DownOk at h; rw [hmw, hFd, hf1] at h; exact h
        have h2 : Hid (∀ u, Below w.heap.size w u → Calls Tryd.prog 34 #[.agg #[.slice A n c], .agg #[.int .i64 n, .slice S mw cs]] u (SetOk u n mw f2)) := Lib.hid fun u hu => by
          have h := up_on A S n c cs R s u (HR.out.below hu) (hT.below hu) HP.out (HS.out.below hu) HVS.out
          rw [hmw, hFu, hf2] at h; exact h
        have h3 : Hid (∀ u g, Below w.heap.size w u → u.rowIs g 59 mw (fun k => .int .u64 (f1 k : Nat)) → Calls Tryd.prog 33 #[.agg #[.slice A n c], .agg #[.int .i64 n, .slice (some ⟨g, 0, none⟩) mw mw]] u (SetOk u n mw f1)) := Lib.hid fun u g hu hg => by
          have hg2 := row_wds hg hv1.out.2
          rw [← hmw] at hg2
          have hv := hv1.out.1
          rw [← hmw] at hv
          have h := down_ok A (some ⟨g, 0, none⟩) n c mw R f1 u (HR.out.below hu) (hT.below hu) HP.out hg2 hv
          have e : setF (tl (dwn n (mat R) f1) true n) = f1 := by rw [← hf1, ← hFd]; exact tl_ext fun j hj => dwn_dwn HP.out.2 hj
          unfold DownOk at h; rw [hmw, e] at h; exact h
        have h4 : Hid (∀ u g, Below w.heap.size w u → u.rowIs g 59 mw (fun k => .int .u64 (f2 k : Nat)) → Calls Tryd.prog 34 #[.agg #[.slice A n c], .agg #[.int .i64 n, .slice (some ⟨g, 0, none⟩) mw mw]] u (SetOk u n mw f2)) := Lib.hid fun u g hu hg => by
          have hg2 := row_wds hg hv2.out.2
          rw [← hmw] at hg2
          have hv := hv2.out.1
          rw [← hmw] at hv
          have h := up_on A (some ⟨g, 0, none⟩) n c mw R f2 u (HR.out.below hu) (hT.below hu) HP.out hg2 hv
          have e : setF (tl (upT n (mat R) f2) true n) = f2 := by rw [← hf2, ← hFu]; exact tl_ext fun j hj => upT_upT HP.out.2 hj
          rw [hmw, e] at h; exact h
        have hs1 : Hid (∀ (u : World) (g h : Nat), u.rowIs g 59 mw (fun k => .int .u64 (f1 k : Nat)) → u.rowIs h 59 mw (fun k => .int .u64 (f1 k : Nat)) → Calls Tryd.prog 28 #[.agg #[.int .i64 n, .slice (some ⟨g, 0, none⟩) mw mw], .agg #[.int .i64 n, .slice (some ⟨h, 0, none⟩) mw mw]] u fun e w' => e = .returned (.bool true) ∧ Below u.heap.size u w') := Lib.hid fun u g h hg hh => by
          subst hmw hf1; exact rsame_setF n g h _ _ _ u (by omega) hg hh
        have hs2 : Hid (∀ (u : World) (g h : Nat), u.rowIs g 59 mw (fun k => .int .u64 (f2 k : Nat)) → u.rowIs h 59 mw (fun k => .int .u64 (f2 k : Nat)) → Calls Tryd.prog 28 #[.agg #[.int .i64 n, .slice (some ⟨g, 0, none⟩) mw mw], .agg #[.int .i64 n, .slice (some ⟨h, 0, none⟩) mw mw]] u fun e w' => e = .returned (.bool true) ∧ Below u.heap.size u w') := Lib.hid fun u g h hg hh => by
          subst hmw hf2; exact rsame_setF n g h _ _ _ u (by omega) hg hh
        have hsub : Hid (∀ (u : World) (g : Nat) (f : Nat → Nat), Vld (n : Int) mw f → (∀ j, j < n → bt s j = true → bt f j = true) → Wds u S mw s → Wds u (some ⟨g, 0, none⟩) mw f → Calls Tryd.prog 40 #[.agg #[.int .i64 n, .slice S mw cs], .agg #[.int .i64 n, .slice (some ⟨g, 0, none⟩) mw mw]] u fun e w' => e = .returned (.bool true) ∧ Below u.heap.size u w') := Lib.hid fun u g f hv hb hsw hfw => by
          have hvs := HVS.out
          rw [hmw] at hvs
          exact refSubset_any n S (some ⟨g, 0, none⟩) mw cs mw s f n true u hsw hfw hvs hv (Nat.le_refl _) hb (.inl ⟨rfl, rfl⟩)
        -- what is outside
        obtain ⟨Lo, hLo⟩ : ∃ L, tl Fd false n = L := ⟨_, rfl⟩
        obtain ⟨f3, hf3⟩ : ∃ f, setF Lo = f := ⟨_, rfl⟩
        have hv3 : Hid (Vld (n : Int) mw f3 ∧ U64 f3 mw) := Lib.hid ⟨by rw [← hmw, ← hf3, ← hLo]; exact setF_vld HP.out.1.1 (fun x hx => (tl_mem.1 hx).1), by rw [← hf3]; exact setF_u64 _ _⟩
        have h5 : Hid (∀ u g, Below w.heap.size w u → u.rowIs g 59 mw (fun k => .int .u64 (f3 k : Nat)) → Calls Tryd.prog 34 #[.agg #[.slice A n c], .agg #[.int .i64 n, .slice (some ⟨g, 0, none⟩) mw mw]] u (SetOk u n mw f3)) := Lib.hid fun u g hu hg => by
          have hg2 := row_wds hg hv3.out.2
          rw [← hmw] at hg2
          have hv := hv3.out.1
          rw [← hmw] at hv
          have h := up_on A (some ⟨g, 0, none⟩) n c mw R f3 u (HR.out.below hu) (hT.below hu) HP.out hg2 hv
          have e : setF (tl (upT n (mat R) f3) true n) = f3 := by
            rw [← hf3, ← hLo, ← hFd]
            refine setF_eq fun x => ?_
            rw [tl_mem, tl_mem]
            constructor
            · rintro ⟨h1, h2⟩; rw [up_out HP.out.2 h1] at h2; exact ⟨h1, by simpa using h2⟩
            · rintro ⟨h1, h2⟩; exact ⟨h1, by rw [up_out HP.out.2 h1, h2]; rfl⟩
          rw [hmw, e] at h; exact h
        have hs3 : Hid (∀ (u : World) (g h : Nat), u.rowIs g 59 mw (fun k => .int .u64 (f3 k : Nat)) → u.rowIs h 59 mw (fun k => .int .u64 (f3 k : Nat)) → Calls Tryd.prog 28 #[.agg #[.int .i64 n, .slice (some ⟨g, 0, none⟩) mw mw], .agg #[.int .i64 n, .slice (some ⟨h, 0, none⟩) mw mw]] u fun e w' => e = .returned (.bool true) ∧ Below u.heap.size u w') := Lib.hid fun u g h hg hh => by
          subst hmw hf3; exact rsame_setF n g h _ _ _ u (by omega) hg hh
        have hof : Hid (∀ (u : World) (v : Value) (base : Nat), u.ownsRow base 3 1 v Lo.length (vals Lo) → Calls Tryd.prog 42 #[.int .i64 n, v] u (SetNew u n mw f3)) := Lib.hid fun u v base ho => by
          have h := ofr_list n v base Lo u (by omega) ho (by rw [← hLo]; have := tl_len Fd false n; omega) (fun x hx => by rw [← hLo] at hx; exact (tl_mem.1 hx).1)
          rw [hmw, hf3] at h; exact h
        have hvs2 : Hid (Vld (n : Int) mw s) := Lib.hid (by have h := HVS.out; rw [hmw] at h; exact h)
        rw [hmw] at hT4 HS ⊢
        have HLO := Lib.hid hLo
        clear hmw hFd hFu hf1 hf2 hLo hf3 hVs HMW HVS
        have c0 := hT4.a.c0
        have c1 := hT4.s.c0
        have c2 := hT4.s.c1
        have H1 := Lib.hid (h1.out w4 hT4.f)
        unfold SetOk at H1
        go_wp2_with fail
        clear c0 c1 c2
        refine H1.out.mono ?_; rintro e w5 ⟨g1, rfl, _, hg1, b5⟩
        have bx := bnew w5 (.cells #[.int .i64 (n : Int), .slice (some ⟨g1, 0, none⟩) mw mw] 37)
        have q1 := setAt_new w5 (n : Int) (some ⟨g1, 0, none⟩) mw mw
        have hT6 := (hT4.next b5).next bx
        have HG1 := Lib.hid (row_below hg1 bx)
        clear hg1 b5 bx hT4 H1 h1
        go_upto_region 4 with fail
        generalize w5.heap.size = p1 at *
        generalize w5.alloc (.cells #[.int .i64 (n : Int), .slice (some ⟨g1, 0, none⟩) mw mw] 37) = w6 at *
        have c0 := hT6.a.c0
        have c1 := hT6.s.c0
        have c2 := hT6.s.c1
        have H1 := Lib.hid (h2.out w6 hT6.f)
        unfold SetOk at H1
        go_wp2_with fail
        clear c0 c1 c2
        refine H1.out.mono ?_; rintro e w7 ⟨g2, rfl, _, hg2, b7⟩
        have bx := bnew w7 (.cells #[.int .i64 (n : Int), .slice (some ⟨g2, 0, none⟩) mw mw] 37)
        have q2 := setAt_new w7 (n : Int) (some ⟨g2, 0, none⟩) mw mw
        have hT8 := (hT6.next b7).next bx
        have q1 := (q1.below b7).below bx
        have HG1 := Lib.hid (row_below (row_below HG1.out b7) bx)
        have HG2 := Lib.hid (row_below hg2 bx)
        clear hg2 b7 bx hT6 H1 h2
        go_upto_region 5 with fail
        generalize w7.heap.size = p2 at *
        generalize w7.alloc (.cells #[.int .i64 (n : Int), .slice (some ⟨g2, 0, none⟩) mw mw] 37) = w8 at *
        have c0 := hT8.a.c0
        have c1 := q1.c0
        have c2 := q1.c1
        have H1 := Lib.hid (h3.out w8 g1 hT8.f HG1.out)
        unfold SetOk at H1
        go_wp2_with fail
        clear c0 c1 c2
        refine H1.out.mono ?_; rintro e w9 ⟨g3, rfl, _, hg3, b9⟩
        have bx := bnew w9 (.cells #[.int .i64 (n : Int), .slice (some ⟨g3, 0, none⟩) mw mw] 37)
        have q3 := setAt_new w9 (n : Int) (some ⟨g3, 0, none⟩) mw mw
        have hTa := (hT8.next b9).next bx
        have q1 := (q1.below b9).below bx
        have q2 := (q2.below b9).below bx
        have HG1 := Lib.hid (row_below (row_below HG1.out b9) bx)
        have HG2 := Lib.hid (row_below (row_below HG2.out b9) bx)
        have HG3 := Lib.hid (row_below hg3 bx)
        clear hg3 b9 bx hT8 H1 h3
        go_upto_region 6 with fail
        generalize w9.heap.size = p3 at *
        generalize w9.alloc (.cells #[.int .i64 (n : Int), .slice (some ⟨g3, 0, none⟩) mw mw] 37) = wa at *
        have c0 := hTa.a.c0
        have c1 := q2.c0
        have c2 := q2.c1
        have H1 := Lib.hid (h4.out wa g2 hTa.f HG2.out)
        unfold SetOk at H1
        go_wp2_with fail
        clear c0 c1 c2
        refine H1.out.mono ?_; rintro e wb ⟨g4, rfl, _, hg4, bb⟩
        have bx := bnew wb (.cells #[.int .i64 (n : Int), .slice (some ⟨g4, 0, none⟩) mw mw] 37)
        have q4 := setAt_new wb (n : Int) (some ⟨g4, 0, none⟩) mw mw
        have hTb := (hTa.next bb).next bx
        have q1 := (q1.below bb).below bx
        have q2 := (q2.below bb).below bx
        have q3 := (q3.below bb).below bx
        have HG1 := Lib.hid (row_below (row_below HG1.out bb) bx)
        have HG2 := Lib.hid (row_below (row_below HG2.out bb) bx)
        have HG3 := Lib.hid (row_below (row_below HG3.out bb) bx)
        have HG4 := Lib.hid (row_below hg4 bx)
        clear hg4 bb bx hTa H1 h4
        go_upto_region 7 with fail
        generalize wb.heap.size = p4 at *
        generalize wb.alloc (.cells #[.int .i64 (n : Int), .slice (some ⟨g4, 0, none⟩) mw mw] 37) = W0 at *
        -- the four tests
        have c0 := q1.c0
        have c1 := q1.c1
        have c2 := q3.c0
        have c3 := q3.c1
        have H1 := Lib.hid (hs1.out W0 g1 g3 HG1.out HG3.out)
        go_wp2_with fail
        clear c0 c1 c2 c3
        refine H1.out.mono ?_; rintro e W1 ⟨rfl, bW⟩
        have hTb := hTb.next bW
        have q1 := q1.below bW
        have q2 := q2.below bW
        have q4 := q4.below bW
        have HG1 := Lib.hid (row_below HG1.out bW)
        have HG2 := Lib.hid (row_below HG2.out bW)
        have HG4 := Lib.hid (row_below HG4.out bW)
        clear bW H1 q3 HG3
        have c0 := q2.c0
        have c1 := q2.c1
        have c2 := q4.c0
        have c3 := q4.c1
        have H1 := Lib.hid (hs2.out W1 g2 g4 HG2.out HG4.out)
        go_wp2_with fail
        clear c0 c1 c2 c3
        refine H1.out.mono ?_; rintro e W2 ⟨rfl, bW⟩
        have hTb := hTb.next bW
        have q1 := q1.below bW
        have q2 := q2.below bW
        have HG1 := Lib.hid (row_below HG1.out bW)
        have HG2 := Lib.hid (row_below HG2.out bW)
        clear bW H1 q4 HG4
        have c0 := hTb.s.c0
        have c1 := hTb.s.c1
        have c2 := q1.c0
        have c3 := q1.c1
        have H1 := Lib.hid (hsub.out W2 g1 f1 hv1.out.1 (fun j hj h => by rw [hb1.out j hj]; exact (hi1.out j).2 (.inl h)) (HS.out.below hTb.f) (row_wds HG1.out hv1.out.2))
        go_wp2_with fail
        clear c0 c1 c2 c3
        refine H1.out.mono ?_; rintro e W3 ⟨rfl, bW⟩
        have hTb := hTb.next bW
        have q1 := q1.below bW
        have q2 := q2.below bW
        have HG1 := Lib.hid (row_below HG1.out bW)
        have HG2 := Lib.hid (row_below HG2.out bW)
        clear bW H1
        have c0 := hTb.s.c0
        have c1 := hTb.s.c1
        have c2 := q2.c0
        have c3 := q2.c1
        have H1 := Lib.hid (hsub.out W3 g2 f2 hv2.out.1 (fun j hj h => by rw [hb2.out j hj]; exact (hi2.out j).2 (.inl h)) (HS.out.below hTb.f) (row_wds HG2.out hv2.out.2))
        go_wp2_with fail
        clear c0 c1 c2 c3
        refine H1.out.mono ?_; rintro e W4 ⟨rfl, bW⟩
        have hTb := hTb.next bW
        have HQ := Lib.hid (And.intro hTb.a (And.intro hTb.s (And.intro (q1.below bW) (q2.below bW))))
        have HW1 := Lib.hid (row_wds (row_below HG1.out bW) hv1.out.2)
        have HW2 := Lib.hid (row_wds (row_below HG2.out bW) hv2.out.2)
        have HB := Lib.hid hTb.f
        have HRW := Lib.hid (HR.out.below hTb.f)
        have HSW := Lib.hid (HS.out.below hTb.f)
        have HTW := Lib.hid (hT.below hTb.f)
        have c0 := hTb.a.c0
        clear bW H1 q1 q2 HG1 HG2 hsub hs1 hs2 hTb HR HS
        generalize W4 = W at *
        go_wp2_with fail
        clear c0
        -- the elements
        go_loopw [107] (fun i wr => ∃ K : Nat, K ≤ n ∧ i = .int .i64 K ∧ Below W.heap.size W wr) (fun i _ => n - (intOf i).toNat)
        case atStart => exact ⟨0, Nat.zero_le _, rfl, Below.refl _ _⟩
        case round =>
          obtain ⟨I, hI, rfl, hB⟩ := hrel
          by_cases hlt : I < n
          · have hwrap : IntKind.i64.wrap ((I : Int) + 1) = (I : Int) + 1 := IntWalk.i64_in _ (by omega)
            obtain ⟨b0, hb0⟩ : ∃ b, bt s I = b := ⟨_, rfl⟩
            have k0 := cell_regrown (HQ.out.2.1.below hB).c0
            have k1 := cell_regrown (HQ.out.2.1.below hB).c1
            have CA := Lib.hid (fun d os => Calls.regrown_of (refHas_in n I S mw cs s b0 (grow (redrawn wr d) os) ((HSW.out.below hB).below (below_regrown wr d os)) hvs2.out hlt hb0))
            have HB0 := Lib.hid hb0
            clear hb0
            go_upto_region 13 with fail
            refine wp_region_quiet_below (by kernel_rfl) (by kernel_rfl) ?_
            repeat (first | go_big_quiet_step (first | with_reducible exact CA.out _ _) | quiet_step (first | with_reducible exact CA.out _ _))
            refine wpQuiet_nil ?_
            intro _ hw'
            obtain ⟨⟨dq, osq⟩, hw''⟩ := hw'
            subst hw''
            have hB2 := below_next hB (below_regrown wr dq osq)
            clear k0 k1 CA hB
            generalize grow (redrawn wr dq) osq = wr at *
            go_wp2_with fail
            go_loopw [117, 15, 16] (fun j dd uu wr => ∃ (J : Nat) (bd bu : Bool), J ≤ n ∧ j = .int .i64 J ∧ dd = .bool bd ∧ uu = .bool bu ∧ Hid (bd = true ↔ bt s I = true ∨ ∃ k, k < J ∧ bt s k = true ∧ mat R I k = true) ∧ Hid (bu = true ↔ bt s I = true ∨ ∃ k, k < J ∧ bt s k = true ∧ mat R k I = true) ∧ Below W.heap.size W wr) (fun j _ _ _ => n - (intOf j).toNat)
            case atStart => exact ⟨0, b0, b0, Nat.zero_le _, rfl, rfl, rfl, Lib.hid ⟨fun h => .inl (HB0.out.trans h), fun h => by rcases h with h | ⟨k, hk, _⟩; (· exact HB0.out.symm.trans h); (· omega)⟩, Lib.hid ⟨fun h => .inl (HB0.out.trans h), fun h => by rcases h with h | ⟨k, hk, _⟩; (· exact HB0.out.symm.trans h); (· omega)⟩, hB2⟩
            case round =>
              clear hB2
              obtain ⟨J, bd, bu, hJ, rfl, rfl, rfl, hbd, hbu, hB⟩ := hrel
              by_cases hltJ : J < n
              · have hwrap2 : IntKind.i64.wrap ((J : Int) + 1) = (J : Int) + 1 := IntWalk.i64_in _ (by omega)
                obtain ⟨bj, hbj⟩ : ∃ b, bt s J = b := ⟨_, rfl⟩
                obtain ⟨t1, ht1⟩ : ∃ t, mat R I J = t := ⟨_, rfl⟩
                obtain ⟨t2, ht2⟩ : ∃ t, mat R J I = t := ⟨_, rfl⟩
                have CH : Hid (∀ u, Below W.heap.size W u → Calls Tryd.prog 41 #[.agg #[.int .i64 n, .slice S mw cs], .int .i64 J] u fun e w' => e = .returned (.bool bj) ∧ Below u.heap.size u w') := Lib.hid fun u hu => refHas_in n J S mw cs s bj u (HSW.out.below hu) hvs2.out hltJ hbj
                have CL1 : Hid (∀ u, Below W.heap.size W u → Calls Tryd.prog 21 #[.agg #[.slice A n c], .int .i64 I, .int .i64 J] u fun e w' => e = .returned (.bool t1) ∧ Below u.heap.size u w') := Lib.hid fun u hu => less_on A n c I R J t1 u (HRW.out.below hu) (HTW.out.below hu) HP.out hlt (by rw [Int.toNat_natCast, ht1]; exact ⟨fun h => ⟨by omega, by omega, h⟩, fun h => h.2.2⟩)
                have CL2 : Hid (∀ u, Below W.heap.size W u → Calls Tryd.prog 21 #[.agg #[.slice A n c], .int .i64 J, .int .i64 I] u fun e w' => e = .returned (.bool t2) ∧ Below u.heap.size u w') := Lib.hid fun u hu => less_on A n c J R I t2 u (HRW.out.below hu) (HTW.out.below hu) HP.out hltJ (by rw [Int.toNat_natCast, ht2]; exact ⟨fun h => ⟨by omega, by omega, h⟩, fun h => h.2.2⟩)
                have hn1 : Hid ((bd || (bj && t1)) = true ↔ bt s I = true ∨ ∃ k, k < J + 1 ∧ bt s k = true ∧ mat R I k = true) := Lib.hid (by
                  rw [Bool.or_eq_true, Bool.and_eq_true, hbd.out, ← hbj, ← ht1]
                  constructor
                  · rintro ((h | ⟨k, hk, h⟩) | h)
                    · exact .inl h
                    · exact .inr ⟨k, by omega, h⟩
                    · exact .inr ⟨J, by omega, h⟩
                  · rintro (h | ⟨k, hk, h⟩)
                    · exact .inl (.inl h)
                    · by_cases e : k = J
                      · subst e; exact .inr h
                      · exact .inl (.inr ⟨k, by omega, h⟩))
                have hn2 : Hid ((bu || (bj && t2)) = true ↔ bt s I = true ∨ ∃ k, k < J + 1 ∧ bt s k = true ∧ mat R k I = true) := Lib.hid (by
                  rw [Bool.or_eq_true, Bool.and_eq_true, hbu.out, ← hbj, ← ht2]
                  constructor
                  · rintro ((h | ⟨k, hk, h⟩) | h)
                    · exact .inl h
                    · exact .inr ⟨k, by omega, h⟩
                    · exact .inr ⟨J, by omega, h⟩
                  · rintro (h | ⟨k, hk, h⟩)
                    · exact .inl (.inl h)
                    · by_cases e : k = J
                      · subst e; exact .inr h
                      · exact .inl (.inr ⟨k, by omega, h⟩))
                obtain ⟨x1, hx1⟩ : ∃ x, (bd || (bj && t1)) = x := ⟨_, rfl⟩
                obtain ⟨x2, hx2⟩ : ∃ x, (bu || (bj && t2)) = x := ⟨_, rfl⟩
                rw [hx1] at hn1
                rw [hx2] at hn2
                have HX1 := Lib.hid hx1
                have HX2 := Lib.hid hx2
                clear hbd hbu hbj ht1 ht2 hx1 hx2
                go_upto_region 17 with fail
                go_cut [15] from 120 to 131 (fun x wx => x = .bool x1 ∧ Below W.heap.size W wx)
                case first =>
                  have c0 := (HQ.out.2.1.below hB).c0
                  have c1 := (HQ.out.2.1.below hB).c1
                  cases bd with
                  | true =>
                    obtain rfl : x1 = true := HX1.out.symm
                    go_wp2_with fail
                    go_meet
                    exact ⟨rfl, hB⟩
                  | false =>
                    go_wp2_with fail
                    refine (CH.out _ hB).mono ?_; rintro e wx ⟨rfl, bx⟩
                    have hBx := below_next hB bx
                    clear c0 c1
                    cases bj with
                    | false =>
                      obtain rfl : x1 = false := HX1.out.symm
                      go_wp2_with fail
                      go_meet
                      exact ⟨rfl, hBx⟩
                    | true =>
                      have c0 := (HQ.out.1.below hBx).c0
                      obtain rfl : x1 = t1 := HX1.out.symm.trans (by cases t1 <;> rfl)
                      go_wp2_with fail
                      refine (CL1.out _ hBx).mono ?_; rintro e wy ⟨rfl, by'⟩
                      go_wp2_with fail
                      go_meet
                      exact ⟨rfl, below_next hBx by'⟩
                case rest =>
                  obtain ⟨rfl, hB2⟩ := hcut
                  clear hB
                  generalize wc = wr at *
                  go_upto_region 18 with fail
                  have c0 := (HQ.out.2.1.below hB2).c0
                  have c1 := (HQ.out.2.1.below hB2).c1
                  cases bu with
                  | true =>
                    obtain rfl : x2 = true := HX2.out.symm
                    go_wp2_with fail
                    go_roundw
                    case rel => exact ⟨J + 1, x1, true, hltJ, by go_num, rfl, rfl, hn1, hn2, hB2⟩
                    case measure => simp [intOf]; omega
                  | false =>
                    go_wp2_with fail
                    refine (CH.out _ hB2).mono ?_; rintro e wx ⟨rfl, bx⟩
                    have hBx := below_next hB2 bx
                    clear c0 c1
                    cases bj with
                    | false =>
                      obtain rfl : x2 = false := HX2.out.symm
                      go_wp2_with fail
                      go_roundw
                      case rel => exact ⟨J + 1, x1, false, hltJ, by go_num, rfl, rfl, hn1, hn2, hBx⟩
                      case measure => simp [intOf]; omega
                    | true =>
                      have c0 := (HQ.out.1.below hBx).c0
                      obtain rfl : x2 = t2 := HX2.out.symm.trans (by cases t2 <;> rfl)
                      go_wp2_with fail
                      refine (CL2.out _ hBx).mono ?_; rintro e wy ⟨rfl, by'⟩
                      have hBy := below_next hBx by'
                      go_wp2_with fail
                      go_roundw
                      case rel => exact ⟨J + 1, x1, x2, hltJ, by go_num, rfl, rfl, hn1, hn2, hBy⟩
                      case measure => simp [intOf]; omega
              · obtain rfl : J = n := by omega
                have he1 : bt f1 I = bd := by
                  rw [hb1.out I hlt]
                  exact bool_ext ((hi1.out I).trans hbd.out.symm)
                have he2 : bt f2 I = bu := by
                  rw [hb2.out I hlt]
                  exact bool_ext ((hi2.out I).trans hbu.out.symm)
                have C1 : Hid (∀ u, Below W.heap.size W u → Calls Tryd.prog 41 #[.agg #[.int .i64 J, .slice (some ⟨g1, 0, none⟩) mw mw], .int .i64 I] u fun e w' => e = .returned (.bool bd) ∧ Below u.heap.size u w') := Lib.hid fun u hu => refHas_in J I (some ⟨g1, 0, none⟩) mw mw f1 bd u (HW1.out.below hu) hv1.out.1 hlt he1
                have C2 : Hid (∀ u, Below W.heap.size W u → Calls Tryd.prog 41 #[.agg #[.int .i64 J, .slice (some ⟨g2, 0, none⟩) mw mw], .int .i64 I] u fun e w' => e = .returned (.bool bu) ∧ Below u.heap.size u w') := Lib.hid fun u hu => refHas_in J I (some ⟨g2, 0, none⟩) mw mw f2 bu u (HW2.out.below hu) hv2.out.1 hlt he2
                have qd : (bd != bd) = false := by cases bd <;> rfl
                have qu : (bu != bu) = false := by cases bu <;> rfl
                clear he1 he2 hbd hbu
                have c0 := (HQ.out.2.2.1.below hB).c0
                have c1 := (HQ.out.2.2.1.below hB).c1
                go_wp2_with fail
                refine (C1.out _ hB).mono ?_; rintro e wx ⟨rfl, bx⟩
                have hBx := below_next hB bx
                clear c0 c1
                have c0 := (HQ.out.2.2.2.below hBx).c0
                have c1 := (HQ.out.2.2.2.below hBx).c1
                go_wp2_with fail
                refine (C2.out _ hBx).mono ?_; rintro e wy ⟨rfl, by'⟩
                have hBy := below_next hBx by'
                clear c0 c1
                go_wp2_with fail
                go_roundw
                case rel => exact ⟨I + 1, hlt, by go_num, hBy⟩
                case measure => simp [intOf]; omega
          · obtain rfl : I = n := by omega
            clear hlt
            go_wp2_with fail
            go_loopw [18, 159] (fun v i wx => ∃ K : Nat, K ≤ I ∧ i = .int .i64 K ∧ wx.ownsRow W.heap.size 3 1 v (tl Fd false K).length (vals (tl Fd false K)) ∧ Below W.heap.size W wx) (fun _ i _ => I - (intOf i).toNat)
            case atStart => exact ⟨0, Nat.zero_le _, rfl, World.ownsRow_nil _ _ _ _, hB⟩
            case round =>
              clear hB
              obtain ⟨K, hK, rfl, hown, hB⟩ := hrel
              by_cases hlt : K < I
              · have hwrap : IntKind.i64.wrap ((K : Int) + 1) = (K : Int) + 1 := IntWalk.i64_in _ (by omega)
                obtain ⟨vb, hvb⟩ : ∃ v, Fd K = v := ⟨_, rfl⟩
                have CH := Lib.hid (refHas_in I K (some ⟨g1, 0, none⟩) mw mw f1 vb _ (HW1.out.below hB) hv1.out.1 hlt ((hb1.out K hlt).trans hvb))
                have c0 := (HQ.out.2.2.1.below hB).c0
                have c1 := (HQ.out.2.2.1.below hB).c1
                have hll := tl_len Fd false K
                go_wp2_with fail
                refine CH.out.mono ?_; rintro e wx ⟨rfl, bx⟩
                have hown2 := own_below hown bx
                have hBx := below_next hB bx
                clear c0 c1 hown hB bx CH
                cases vb with
                | true =>
                  have hst : Hid (tl Fd false (K + 1) = tl Fd false K) := tl_no (by rw [hvb]; decide)
                  clear hvb
                  go_wp2_with fail
                  go_roundw
                  case rel => exact ⟨K + 1, hlt, by go_num, by rw [hst.out]; exact hown2, hBx⟩
                  case measure => simp [intOf]; omega
                | false =>
                  have hst : Hid (tl Fd false (K + 1) = tl Fd false K ++ [K]) := tl_yes hvb
                  obtain ⟨l2, hl2⟩ : ∃ l, l = tl Fd false K := ⟨_, rfl⟩
                  rw [← hl2] at hown2 hst hll
                  clear hl2 hvb
                  have bA : Below wx.heap.size wx (wx.alloc (.cells #[.int .i64 (K : Int)] 3)) := (Below.refl _ _).alloc (Nat.le_refl _) _
                  have hownA := own_below hown2 bA
                  have hBA := below_next hBx bA
                  have hsz := hBA.size
                  go_wp2_with (at_builtin; refine append_nat rfl (.tmp 166) (.tmp 168) rfl W.heap.size _ l2 K K _ rfl hownA wx.heap.size rfl (heap_alloc_new _ _) rfl (by omega) hsz ?_; intro g9 c9 w9 hown9 hg9 hat9)
                  have hB9 := grown_below2 hBA hownA (Nat.le_refl _) hg9
                  go_roundw
                  case rel => exact ⟨K + 1, hlt, by go_num, by rw [hst.out, List.length_append]; exact hown9, hB9⟩
                  case measure => simp [intOf]; omega
              · obtain rfl : K = I := by omega
                rw [HLO.out] at hown
                have HO := Lib.hid (hof.out _ _ _ hown)
                unfold SetNew at HO
                go_wp2_with fail
                refine HO.out.mono ?_; rintro e wx ⟨g5, rfl, _, hg5, bx⟩
                have bn := bnew wx (.cells #[.int .i64 (K : Int), .slice (some ⟨g5, 0, none⟩) mw mw] 37)
                have q5 := setAt_new wx (K : Int) (some ⟨g5, 0, none⟩) mw mw
                have hBx := below_next (below_next hB bx) bn
                have HG5 := Lib.hid (row_below hg5 bn)
                clear hown hB bx bn hg5 HO
                go_upto_region 31 with fail
                generalize wx.heap.size = p5 at *
                generalize wx.alloc (.cells #[.int .i64 (K : Int), .slice (some ⟨g5, 0, none⟩) mw mw] 37) = wy at *
                have c0 := (HQ.out.1.below hBx).c0
                have c1 := q5.c0
                have c2 := q5.c1
                have HU := Lib.hid (h5.out wy g5 (below_next HB.out hBx) HG5.out)
                unfold SetOk at HU
                go_wp2_with fail
                clear c0 c1 c2
                refine HU.out.mono ?_; rintro e wz ⟨g6, rfl, _, hg6, bz⟩
                have bn := bnew wz (.cells #[.int .i64 (K : Int), .slice (some ⟨g6, 0, none⟩) mw mw] 37)
                have q6 := setAt_new wz (K : Int) (some ⟨g6, 0, none⟩) mw mw
                have hBz := below_next (below_next hBx bz) bn
                have q5 := (q5.below bz).below bn
                have HG5 := Lib.hid (row_below (row_below HG5.out bz) bn)
                have HG6 := Lib.hid (row_below hg6 bn)
                clear hBx bz bn hg6 HU
                go_upto_region 32 with fail
                generalize wz.heap.size = p6 at *
                generalize wz.alloc (.cells #[.int .i64 (K : Int), .slice (some ⟨g6, 0, none⟩) mw mw] 37) = wt at *
                have c0 := q5.c0
                have c1 := q5.c1
                have c2 := q6.c0
                have c3 := q6.c1
                have H1 := Lib.hid (hs3.out wt g6 g5 HG6.out HG5.out)
                go_wp2_with fail
                refine H1.out.mono ?_; rintro e wu ⟨rfl, bu⟩
                go_wp2_with fail
                go_ret
                exact ⟨rfl, below_next HB.out (below_next hBz bu)⟩
end Go.Proofs.YtakjdihhbndcnaaDoor
