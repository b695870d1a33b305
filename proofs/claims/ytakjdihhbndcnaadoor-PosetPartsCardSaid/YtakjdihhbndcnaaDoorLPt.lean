/- The law PosetParts: the walk. -/
import Derived.Test.YtakjdihhbndcnaaDoorLCd
namespace Go.Proofs.YtakjdihhbndcnaaDoor
open Go.RowKit Go.Sort
/- mathematics -/
theorem rs_ord {n : Nat} {T : Nat → Nat → Bool} {m : List Nat} (hP : ∀ i, i < n → POk n T i) (hm : ∀ x, x ∈ m → x < n) : ∀ i, i < m.length → POk m.length (rsT T m) i := fun i hi => by
  have hg : ∀ k, k < m.length → m.getD k 0 < n := fun k hk => by rw [getD_lt hk]; exact hm _ (List.getElem_mem hk)
  exact ⟨(hP _ (hg i hi)).1, fun j hj h1 k hk h2 => (hP _ (hg i hi)).2 _ (hg j hj) h1 _ (hg k hk) h2⟩
theorem lev_congr {n : Nat} {T S : Nat → Nat → Bool} {L : Nat → Int} (h : IsLev n T L) (e : ∀ i, i < n → ∀ j, j < n → T i j = S i j) : IsLev n S L :=
  ⟨fun i hi j hj ht => h.1 i hi j hj ((e i hi j hj).trans ht), fun j hj => ⟨(h.2 j hj).1, (h.2 j hj).2.imp id fun ⟨i, hi, h1, h2⟩ => ⟨i, hi, (e i hi j hj).symm.trans h1, h2⟩⟩⟩
theorem lev_part {n : Nat} {T : Nat → Nat → Bool} {L : Nat → Int} {f : Nat → Nat} (hL : IsLev n T L) (hd : ∀ i j, i < n → j < n → T i j = true → bt f j = true → bt f i = true) : IsLev (mem f n).length (rsT T (mem f n)) (fun i => L ((mem f n).getD i 0)) := by
  have hg : ∀ k, k < (mem f n).length → (mem f n).getD k 0 < n ∧ bt f ((mem f n).getD k 0) = true := fun k hk => by rw [getD_lt hk]; exact mem_in.1 (List.getElem_mem hk)
  refine ⟨fun i hi j hj ht => hL.1 _ (hg i hi).1 _ (hg j hj).1 ht, fun j hj => ⟨(hL.2 _ (hg j hj).1).1, ?_⟩⟩
  rcases (hL.2 _ (hg j hj).1).2 with e | ⟨i, hi, h1, h2⟩
  · exact .inl e
  · have hif : i ∈ mem f n := mem_in.2 ⟨hi, hd i _ hi (hg j hj).1 h1 (hg j hj).2⟩
    obtain ⟨q, hq⟩ := List.mem_iff_getElem?.1 hif
    obtain ⟨hq1, hq2⟩ := List.getElem?_eq_some_iff.1 hq
    have e : (mem f n).getD q 0 = i := by rw [getD_lt hq1, hq2]
    exact .inr ⟨q, hq1, by show T ((mem f n).getD q 0) _ = true; rw [e]; exact h1, by show _ = L ((mem f n).getD q 0) + 1; rw [e]; exact h2⟩
theorem all_mem (n : Nat) : (List.range n).filter (bt (setF (List.range n))) = List.range n := by
  rw [List.filter_eq_self]
  intro x hx
  exact (setF_bt _ _).2 hx
theorem all_rs {n : Nat} {T : Nat → Nat → Bool} : ∀ i, i < n → ∀ j, j < n → rsT T (List.range n) i j = T i j := fun i hi j hj => by
  unfold rsT
  rw [getD_lt (by simpa using hi), getD_lt (by simpa using hj)]
  simp
theorem mem_get_lt {f : Nat → Nat} {n : Nat} {m : List Nat} (hm : m = mem f n) {i : Nat} (hi : i < m.length) : m.getD i 0 < n := by subst hm; rw [getD_lt hi]; exact (mem_in.1 (List.getElem_mem hi)).1
set_option maxRecDepth 100000 in
set_option maxHeartbeats 8000000 in
theorem pt_law (A : Option Addr) (n c : Nat) (R : Nat → RowD) (N : Int) (S : Option Addr) (l cs : Nat) (s : Nat → Nat) (w : World) (ha : Rel w A n R) (hs : Wds w S l s) (hT : Tab w) :
    Calls Tryd.prog 10 #[.agg #[.slice A n c], .agg #[.int .i64 N, .slice S l cs]] w fun e w' => e = .returned (.bool true) ∧ Below w.heap.size w w' := by
  have HR := Lib.hid ha
  have HS := Lib.hid hs
  clear ha hs
  have hT0 := sb_new w A n c N S l cs
  go_enter Tryd.func10, Tryd.ntmps10
  go_upto_region 1 with fail
  generalize (w.alloc (.cells #[.slice A n c] 24)).alloc (.cells #[.int .i64 N, .slice S l cs] 37) = W at *
  go_wp2_with fail
  refine (awake_any W (hT.below hT0.f)).mono ?_; rintro e w1 ⟨rfl, b1⟩
  have hT1 := hT0.next b1
  clear hT0 b1
  obtain ⟨v1, hv1⟩ : ∃ v : Bool, v = true ↔ Few n R := ⟨@decide _ (Classical.propDecidable _), @decide_eq_true_iff _ (Classical.propDecidable _)⟩
  have HF1 := Lib.hid (few_any A n c R v1 w1 (HR.out.below hT1.f) hv1)
  have HV1 := Lib.hid hv1
  clear hv1
  have c0 := hT1.a.c0
  go_wp2_with fail
  refine HF1.out.mono ?_; rintro e w2 ⟨rfl, b2⟩
  have hT2 := hT1.next b2
  clear hT1 b2 c0 HF1
  cases v1 with
  | false =>
    go_wp2_with fail
    refine (awake_any w2 (hT.below hT2.f)).mono ?_; rintro e w3 ⟨rfl, b3⟩
    go_wp2_with fail
    go_ret
    exact ⟨rfl, below_next hT2.f b3⟩
  | true =>
    have hn := (HV1.out.1 (by first | rfl | exact trivial)).1
    clear HV1
    obtain ⟨vp, hvp⟩ : ∃ v : Bool, v = true ↔ POrd n R := ⟨@decide _ (Classical.propDecidable _), @decide_eq_true_iff _ (Classical.propDecidable _)⟩
    have HVP := Lib.hid hvp
    have HV := Lib.hid (rpvalid_any A n c R vp w2 (HR.out.below hT2.f) (by omega) hvp)
    clear hvp
    have c0 := hT2.a.c0
    go_wp2_with fail
    refine HV.out.mono ?_; rintro e w3 ⟨rfl, b3⟩
    have hT3 := hT2.next b3
    clear hT2 b3 c0 HV
    cases vp with
    | false =>
      go_wp2_with fail
      refine (awake_any w3 (hT.below hT3.f)).mono ?_; rintro e w4 ⟨rfl, b4⟩
      go_wp2_with fail
      go_ret
      exact ⟨rfl, below_next hT3.f b4⟩
    | true =>
      have hP := HVP.out.1 (by first | rfl | exact trivial)
      have HP := Lib.hid hP
      clear HVP hP
      obtain ⟨vs, hvs⟩ : ∃ v : Bool, v = true ↔ SetP n N l s := ⟨@decide _ (Classical.propDecidable _), @decide_eq_true_iff _ (Classical.propDecidable _)⟩
      have HVS := Lib.hid hvs
      have HST := Lib.hid (rset_any A S n c l cs N s vs w3 (HS.out.below hT3.f) hvs)
      clear hvs
      have c0 := hT3.a.c0
      have c1 := hT3.s.c0
      have c2 := hT3.s.c1
      go_wp2_with fail
      clear c0 c1 c2
      refine HST.out.mono ?_; rintro e w4 ⟨rfl, b4⟩
      have hT4 := hT3.next b4
      clear hT3 b4 HST
      cases vs with
      | false =>
        go_wp2_with fail
        refine (awake_any w4 (hT.below hT4.f)).mono ?_; rintro e w5 ⟨rfl, b5⟩
        go_wp2_with fail
        go_ret
        exact ⟨rfl, below_next hT4.f b5⟩
      | true =>
        obtain ⟨hN, hVs⟩ := HVS.out.1 (by first | rfl | exact trivial)
        clear HVS
        subst hN
        obtain rfl : l = (n + 63) / 64 := by have := hVs.2.2.1; simpa using this
        have HVS := Lib.hid hVs
        have hN64 : n ≤ 64 * ((n + 63) / 64) := by omega
        have hl9 : (n + 63) / 64 ≤ 9 := by omega
        obtain ⟨mw, hmw⟩ : ∃ mw, (n + 63) / 64 = mw := ⟨_, rfl⟩
        have HMW := Lib.hid hmw
        obtain ⟨m, hm⟩ : ∃ m, m = mem s n := ⟨_, rfl⟩
        obtain ⟨k, hk⟩ : ∃ k, m.length = k := ⟨_, rfl⟩
        have hkn : k ≤ n := by rw [← hk, hm]; exact mem_len_le s n
        have hmn : Hid (∀ i, i < k → m.getD i 0 < n) := Lib.hid fun i hi => mem_get_lt hm (by rw [hk]; exact hi)
        obtain ⟨T, hTT⟩ : ∃ T, rsT (mat R) m = T := ⟨_, rfl⟩
        have HTT : Hid (∀ i j, T i j = mat R (m.getD i 0) (m.getD j 0)) := Lib.hid fun i j => by rw [← hTT]; rfl
        have hTo : Hid (∀ i, i < k → POk k T i) := Lib.hid (by rw [← hTT, ← hk]; exact rs_ord HP.out.2 (fun x hx => by rw [hm] at hx; exact (mem_in.1 hx).1))
        have h3 : Hid (∀ u, Below w.heap.size w u → Calls Tryd.prog 35 #[.agg #[.slice A n c], .agg #[.int .i64 n, .slice S mw cs]] u (RelOk u k T)) := Lib.hid fun u hu => by
          have h := restrict_on A S n c cs R s m u (HR.out.below hu) (hT.below hu) HP.out (HS.out.below hu) HVS.out hm
          rw [hmw, hTT, hk] at h; exact h
        have hMs : Hid (∀ u, Below w.heap.size w u → Calls Tryd.prog 43 #[.agg #[.int .i64 n, .slice S mw cs]] u (RowOut u m)) := Lib.hid fun u hu => by
          have h := refMembers_any n S ((n + 63) / 64) cs s u (HS.out.below hu) hN64 hl9
          rw [hmw, ← hm] at h; exact h
        -- everything
        obtain ⟨fA, hfA⟩ : ∃ f, setF (List.range n) = f := ⟨_, rfl⟩
        have hof : Hid (∀ (u : World) (v : Value) (base : Nat), u.ownsRow base 3 1 v n (vals (List.range n)) → Calls Tryd.prog 42 #[.int .i64 n, v] u (SetNew u n mw fA)) := Lib.hid fun u v base ho => by
          have h := ofr_list n v base (List.range n) u (by omega) (by rw [List.length_range]; exact ho) (by simp; omega) (fun x hx => by simpa using hx)
          rw [hmw, hfA] at h; exact h
        have hvA : Hid (Vld (n : Int) mw fA ∧ U64 fA mw) := Lib.hid ⟨by rw [← hmw, ← hfA]; exact setF_vld HP.out.1.1 (fun x hx => by simpa using hx), by rw [← hfA]; exact setF_u64 _ _⟩
        have hRA : Hid (∀ u g, Below w.heap.size w u → u.rowIs g 59 mw (fun k => .int .u64 (fA k : Nat)) → Calls Tryd.prog 35 #[.agg #[.slice A n c], .agg #[.int .i64 n, .slice (some ⟨g, 0, none⟩) mw mw]] u (RelOk u n (mat R))) := Lib.hid fun u g hu hg => by
          have hg2 := row_wds hg hvA.out.2
          have hv := hvA.out.1
          rw [← hmw] at hg2 hv
          have h := restrict_on A (some ⟨g, 0, none⟩) n c mw R fA (List.range n) u (HR.out.below hu) (hT.below hu) HP.out hg2 hv (by rw [← hfA]; exact (all_mem n).symm)
          rw [hmw, List.length_range] at h
          exact h.mono fun e w' h => relOk_congr h all_rs
        -- the down-set
        obtain ⟨f1, hf1⟩ : ∃ f, setF (tl (dwn n (mat R) s) true n) = f := ⟨_, rfl⟩
        have hv1 : Hid (Vld (n : Int) mw f1 ∧ U64 f1 mw) := Lib.hid ⟨by rw [← hmw, ← hf1]; exact setF_vld HP.out.1.1 (fun x hx => (tl_mem.1 hx).1), by rw [← hf1]; exact setF_u64 _ _⟩
        have h1 : Hid (∀ u, Below w.heap.size w u → Calls Tryd.prog 33 #[.agg #[.slice A n c], .agg #[.int .i64 n, .slice S mw cs]] u (SetOk u n mw f1)) := Lib.hid fun u hu => by
          have h := down_ok A S n c cs R s u (HR.out.below hu) (hT.below hu) HP.out (HS.out.below hu) HVS.out
          unfold DownOk at h; rw [hmw, hf1] at h; exact h
        have hdc : Hid (∀ i j, i < n → j < n → mat R i j = true → bt f1 j = true → bt f1 i = true) := Lib.hid fun i j hi hj ht hb => by
          rw [← hf1, setT_bt hj, dwn_iff] at hb
          rw [← hf1, setT_bt hi, dwn_iff]
          rcases hb with hb | ⟨q, hq, h1, h2⟩
          · exact .inr ⟨j, hj, hb, ht⟩
          · exact .inr ⟨q, hq, h1, (HP.out.2 i hi).2 j hj ht q hq h2⟩
        obtain ⟨m2, hm2⟩ : ∃ m, m = mem f1 n := ⟨_, rfl⟩
        obtain ⟨k2, hk2⟩ : ∃ k, m2.length = k := ⟨_, rfl⟩
        have hkn2 : k2 ≤ n := by rw [← hk2, hm2]; exact mem_len_le f1 n
        have hmn2 : Hid (∀ i, i < k2 → m2.getD i 0 < n) := Lib.hid fun i hi => mem_get_lt hm2 (by rw [hk2]; exact hi)
        obtain ⟨T2, hTT2⟩ : ∃ T, rsT (mat R) m2 = T := ⟨_, rfl⟩
        have hTo2 : Hid (∀ i, i < k2 → POk k2 T2 i) := Lib.hid (by rw [← hTT2, ← hk2]; exact rs_ord HP.out.2 (fun x hx => by rw [hm2] at hx; exact (mem_in.1 hx).1))
        have hlp : Hid (∀ L : Nat → Int, IsLev n (mat R) L → IsLev k2 T2 (fun i => L (m2.getD i 0))) := Lib.hid fun L hL => by
          rw [← hk2, ← hTT2, hm2]; exact lev_part hL hdc.out
        have h4 : Hid (∀ u g, Below w.heap.size w u → u.rowIs g 59 mw (fun k => .int .u64 (f1 k : Nat)) → Calls Tryd.prog 35 #[.agg #[.slice A n c], .agg #[.int .i64 n, .slice (some ⟨g, 0, none⟩) mw mw]] u (RelOk u k2 T2)) := Lib.hid fun u g hu hg => by
          have hg2 := row_wds hg hv1.out.2
          have hv := hv1.out.1
          rw [← hmw] at hg2 hv
          have h := restrict_on A (some ⟨g, 0, none⟩) n c mw R f1 m2 u (HR.out.below hu) (hT.below hu) HP.out hg2 hv hm2
          rw [hmw, hTT2, hk2] at h; exact h
        have hM2 : Hid (∀ (u : World) g, u.rowIs g 59 mw (fun k => .int .u64 (f1 k : Nat)) → Calls Tryd.prog 43 #[.agg #[.int .i64 n, .slice (some ⟨g, 0, none⟩) mw mw]] u (RowOut u m2)) := Lib.hid fun u g hg => by
          have hg2 := row_wds hg hv1.out.2
          rw [← hmw] at hg2
          have h := refMembers_any n (some ⟨g, 0, none⟩) ((n + 63) / 64) mw f1 u hg2 hN64 hl9
          rw [hmw, ← hm2] at h; exact h
        have hS2 : Hid (∀ (u : World) g, u.rowIs g 59 mw (fun k => .int .u64 (f1 k : Nat)) → Calls Tryd.prog 36 #[.agg #[.slice A n c], .agg #[.int .i64 n, .slice (some ⟨g, 0, none⟩) mw mw]] u fun e w' => e = .returned (.bool true) ∧ Below u.heap.size u w') := Lib.hid fun u g hg =>
          rset_any A (some ⟨g, 0, none⟩) n c mw mw n f1 true u (row_wds hg hv1.out.2) ⟨fun _ => ⟨rfl, hv1.out.1⟩, fun _ => rfl⟩
        rw [hmw] at hT4 HS ⊢
        have HK := Lib.hid hk
        have HK2 := Lib.hid hk2
        clear hmw hm hk hTT hfA hf1 hm2 hk2 hTT2 hVs HMW HVS hN64 hl9
        have c0 := hT4.a.c0
        have c1 := hT4.s.c0
        have c2 := hT4.s.c1
        have H1 := Lib.hid (h3.out w4 hT4.f)
        unfold RelOk at H1
        go_wp2_with fail
        clear c0 c1 c2
        refine H1.out.mono ?_; rintro e w5 ⟨Aq, cq, Rq, rfl, hRq, _, hVq, hMq, b5⟩
        have bx := bnew w5 (.cells #[.slice Aq k cq] 24)
        have q1 := relAt_new w5 Aq k cq
        have hT6 := (hT4.next b5).next bx
        have HRq := Lib.hid (hRq.below bx)
        have HPq : Hid (POrd k Rq) := Lib.hid ⟨hVq, pok_congr hMq hTo.out⟩
        have HMq := Lib.hid hMq
        clear hRq hVq hMq b5 bx hT4 H1 h3
        go_upto_region 4 with fail
        generalize w5.heap.size = p1 at *
        generalize w5.alloc (.cells #[.slice Aq k cq] 24) = w6 at *
        have c1 := hT6.s.c0
        have c2 := hT6.s.c1
        have H1 := Lib.hid (hMs.out w6 hT6.f)
        unfold RowOut at H1
        go_wp2_with fail
        clear c1 c2
        refine H1.out.mono ?_; rintro e w7 ⟨vm, rfl, hown, b7⟩
        have hT8 := hT6.next b7
        have q1 := q1.below b7
        have HRq := Lib.hid (HRq.out.below b7)
        obtain ⟨Am, cm, rfl, hIm, _⟩ := own_ints hown
        rw [HK.out] at hIm ⊢
        have HIm := Lib.hid hIm
        clear b7 hT6 H1 hMs hown hIm
        have qk : ((k : Int) != (k : Int)) = false := by simp
        have c0 := q1.c0
        have H1 := Lib.hid (pvalid_any Aq k cq Rq true w7 HRq.out (by omega) (hT.below hT8.f) ⟨fun _ => HPq.out, fun _ => rfl⟩)
        go_wp2_with fail
        clear c0 qk
        refine H1.out.mono ?_; rintro e W ⟨rfl, bW⟩
        have hTW := hT8.next bW
        have HQ := Lib.hid (And.intro hTW.a (And.intro hTW.s (q1.below bW)))
        have HRqW := Lib.hid (HRq.out.below bW)
        have HImW := Lib.hid (HIm.out.below bW)
        have HB := Lib.hid hTW.f
        have HRW := Lib.hid (HR.out.below hTW.f)
        have HTW := Lib.hid (hT.below hTW.f)
        clear bW hT8 H1 q1 HRq HIm hTW HR HS
        go_wp2_with fail
        go_loopw [65] (fun i wr => ∃ K : Nat, K ≤ k ∧ i = .int .i64 K ∧ Below W.heap.size W wr) (fun i _ => k - (intOf i).toNat)
        case atStart => exact ⟨0, Nat.zero_le _, rfl, Below.refl _ _⟩
        case round =>
          obtain ⟨I, hI, rfl, hB⟩ := hrel
          by_cases hlt : I < k
          · have hwrap : IntKind.i64.wrap ((I : Int) + 1) = (I : Int) + 1 := IntWalk.i64_in _ (by omega)
            go_wp2_with fail
            go_loopw [70] (fun j wr => ∃ J : Nat, J ≤ k ∧ j = .int .i64 J ∧ Below W.heap.size W wr) (fun j _ => k - (intOf j).toNat)
            case atStart => exact ⟨0, Nat.zero_le _, rfl, hB⟩
            case round =>
              clear hB
              obtain ⟨J, hJ, rfl, hB⟩ := hrel
              by_cases hltJ : J < k
              · have hwrap2 : IntKind.i64.wrap ((J : Int) + 1) = (J : Int) + 1 := IntWalk.i64_in _ (by omega)
                obtain ⟨bm, om, rfl, hbm, hcm⟩ := (HImW.out.below hB) (by omega)
                have z0 := hcm I hlt
                have z1 := hcm J hltJ
                unfold gets at z0 z1
                have hin := hmn.out I hlt
                have hjn := hmn.out J hltJ
                obtain ⟨v, hv⟩ : ∃ v, T I J = v := ⟨_, rfl⟩
                have hvm : mat R (m.getD I 0) (m.getD J 0) = v := by rw [← HTT.out]; exact hv
                have hvq : mat Rq I J = v := (HMq.out I hlt J hltJ).trans hv
                generalize m.getD I 0 = a at *
                generalize m.getD J 0 = b at *
                have k0 := cell_regrown (HQ.out.1.below hB).c0
                have k1 := cell_regrown (HQ.out.2.2.below hB).c0
                have k2 := cell_regrown z0
                have k3 := cell_regrown z1
                have CA := Lib.hid (fun d os => Calls.regrown_of (less_on Aq k cq I Rq J v (grow (redrawn wr d) os) ((HRqW.out.below hB).below (below_regrown wr d os)) ((HTW.out.below hB).below (below_regrown wr d os)) HPq.out hlt (by rw [Int.toNat_natCast, hvq]; exact ⟨fun h => ⟨by omega, by omega, h⟩, fun h => h.2.2⟩)))
                have CB := Lib.hid (fun d os => Calls.regrown_of (less_on A n c a R b v (grow (redrawn wr d) os) ((HRW.out.below hB).below (below_regrown wr d os)) ((HTW.out.below hB).below (below_regrown wr d os)) HP.out hin (by rw [Int.toNat_natCast, hvm]; exact ⟨fun h => ⟨by omega, by omega, h⟩, fun h => h.2.2⟩)))
                have qv : (v != v) = false := by cases v <;> rfl
                clear z0 z1 hv hvm hvq hcm
                go_upto_region 13 with fail
                refine wp_region_quiet_below (by kernel_rfl) (by kernel_rfl) ?_
                repeat (first | go_big_quiet_step (first | with_reducible exact CA.out _ _ | with_reducible exact CB.out _ _) | quiet_step (first | with_reducible exact CA.out _ _ | with_reducible exact CB.out _ _))
                refine wpQuiet_nil ?_
                intro _ hw'
                obtain ⟨⟨dq, osq⟩, hw''⟩ := hw'
                subst hw''
                have hB2 := below_next hB (below_regrown wr dq osq)
                clear k0 k1 k2 k3 CA CB hB
                go_wp2_with fail
                go_roundw
                case rel => exact ⟨J + 1, hltJ, by go_num, hB2⟩
                case measure => simp [intOf]; omega
              · obtain rfl : J = k := by omega
                go_wp2_with fail
                go_roundw
                case rel => exact ⟨I + 1, hlt, by go_num, hB⟩
                case measure => simp [intOf]; omega
          · have c0 := (HQ.out.1.below hB).c0
            go_wp2_with fail
            clear c0
            go_loopw [11, 94] (fun v i wx => ∃ K : Nat, K ≤ n ∧ i = .int .i64 K ∧ wx.ownsRow W.heap.size 3 1 v (List.range K).length (vals (List.range K)) ∧ Below W.heap.size W wx) (fun _ i _ => n - (intOf i).toNat)
            case atStart => exact ⟨0, Nat.zero_le _, rfl, World.ownsRow_nil _ _ _ _, hB⟩
            case round =>
              clear hB
              obtain ⟨K, hK, rfl, hown, hB⟩ := hrel
              by_cases hltK : K < n
              · have hwrap : IntKind.i64.wrap ((K : Int) + 1) = (K : Int) + 1 := IntWalk.i64_in _ (by omega)
                have hst : Hid (List.range (K + 1) = List.range K ++ [K]) := Lib.hid List.range_succ
                have hll : (List.range K).length ≤ n := by simp; omega
                generalize List.range K = l2 at *
                have bA : Below wr.heap.size wr (wr.alloc (.cells #[.int .i64 (K : Int)] 3)) := (Below.refl _ _).alloc (Nat.le_refl _) _
                have hownA := own_below hown bA
                have hBA := below_next hB bA
                have hsz := hBA.size
                go_wp2_with (at_builtin; refine append_nat rfl (.tmp 97) (.tmp 99) rfl W.heap.size _ l2 K K _ rfl hownA wr.heap.size rfl (heap_alloc_new _ _) rfl (by omega) hsz ?_; intro g9 c9 w9 hown9 hg9 hat9)
                have hB9 := grown_below2 hBA hownA (Nat.le_refl _) hg9
                go_roundw
                case rel => exact ⟨K + 1, hltK, by go_num, by rw [hst.out, List.length_append]; exact hown9, hB9⟩
                case measure => simp [intOf]; omega
              · obtain rfl : K = n := by omega
                rw [List.length_range] at hown
                go_upto_region 24 with fail
                have HOWN := Lib.hid hown
                have hofW : Hid (∀ u, Below wr.heap.size wr u → Calls Tryd.prog 42 #[.int .i64 K, u11] u (SetNew u K mw fA)) := Lib.hid fun u hu => hof.out u u11 W.heap.size (own_below HOWN.out hu)
                have hrsW : Hid (∀ u g, Below wr.heap.size wr u → u.rowIs g 59 mw (fun k => .int .u64 (fA k : Nat)) → Calls Tryd.prog 35 #[.agg #[.slice A K c], .agg #[.int .i64 K, .slice (some ⟨g, 0, none⟩) mw mw]] u (RelOk u K (mat R))) := Lib.hid fun u g hu hg => hRA.out u g (below_next HB.out (below_next hB hu)) hg
                have hss : Hid (∀ w', Below wr.heap.size wr w' → Below wr.heap.size wr w' ∧ w'.cell? ⟨w.heap.size, 0, none⟩ = some (.slice A K c)) := Lib.hid fun w' b => ⟨b, ((HQ.out.1.below hB).below b).c0⟩
                unfold SetNew at hofW
                unfold RelOk at hrsW
                go_cut [6, 13] from 103 to 109 (fun y x wx => ∃ pd Aw cw Rw, x = .pointer (some ⟨pd, 0, none⟩) ∧ y = .int .i64 0 ∧ RelAt wx pd Aw K cw ∧ Rel wx Aw K Rw ∧ VRel K Rw ∧ Hid (∀ i, i < K → ∀ j, j < K → mat Rw i j = mat R i j) ∧ Below wr.heap.size wr wx)
                case first =>
                  clear HOWN hown HRW HRqW HImW HTW HPq HMq hTo hTo2 hlp h4 hM2 hS2 hdc h1
                  go_region_held3 (fun w' => Below wr.heap.size wr w' ∧ w'.cell? ⟨w.heap.size, 0, none⟩ = some (.slice A K c))
                    (first
                      | exact hss.out _ (Below.refl _ _).drew
                      | exact hss.out _ ((Below.refl _ _).alloc (Nat.le_refl _) _).drew
                      | exact hss.out _ bw10
                      | exact hss.out _ bw9
                      | exact hss.out _ (bw10.alloc bw10.size _)
                      | exact hss.out _ (bw9.alloc bw9.size _)
                      | exact hss.out _ (bw10.setCell (by first | exact Nat.le_refl _ | exact Nat.le_succ _ | exact hs9) _))
                    (first
                      | (go_at_call 42; (with_reducible refine (hofW.out _ (And.left (by assumption))).mono ?_); rintro e w9 ⟨g9, rfl, hg9, hr9, b9⟩; have bw9 := below_next (And.left (by assumption)) b9; have hs9 := bw9.size;
                          (first
                            | (have e4 : w9.heap[wr.heap.size]? = some (.cells #[.slice none 0 0] 24 (0, 0)) := lk_bel b9 (lk_drew (lk_new rfl)) (by first | (simp; done) | (simp; omega)); have z0 := cell_of_row _ _ 0 _ _ _ e4; have y0 := frozen_of_row _ _ 0 _ _ e4)
                            | skip))
                      | (go_at_call 35; (with_reducible refine (hrsW.out _ g9 (And.left (by assumption)) (by first | exact hr9 | exact row_below hr9 (bnew _ _))).mono ?_); rintro e w10 ⟨Aw, cw, Rw, rfl, hRw, hFw, hVw, hMw, b10⟩; have bw10 := below_next (And.left (by assumption)) b10;
                          (first
                            | (have e5 : w10.heap[w9.heap.size]? = some (.cells #[.slice none 0 0] 24 (0, 0)) := lk_bel b10 (lk_new rfl) (by first | (simp; done) | (simp; omega)); have z0 := cell_of_row _ _ 0 _ _ _ e5; have y0 := frozen_of_row _ _ 0 _ _ e5)
                            | (have e5 := lk_bel b10 e4 (lt_of_block e4); have z0 := cell_of_row _ _ 0 _ _ _ e5; have y0 := frozen_of_row _ _ 0 _ _ e5)
                            | skip)))
                  all_goals
                    go_wp2_with fail
                    go_meet
                  all_goals
                    first
                      | exact ⟨w10.heap.size, Aw, cw, Rw, rfl, rfl, relAt_new w10 Aw K cw, hRw.below (bnew _ _), hVw, Lib.hid hMw, bw10.alloc bw10.size _⟩
                      | (have hlt2 : wr.heap.size < w9.heap.size := lt_of_block e4
                         exact ⟨wr.heap.size, Aw, cw, Rw, rfl, rfl, relAt_put2 e5, hRw.far_new (q := ⟨wr.heap.size, 0, none⟩) hFw (by exact hlt2) _, hVw, Lib.hid hMw, bw10.setCell (by exact Nat.le_refl _) _⟩)
                      | exact ⟨w9.heap.size, Aw, cw, Rw, rfl, rfl, relAt_put2 e5, hRw.far_new (q := ⟨w9.heap.size, 0, none⟩) hFw (by simp) _, hVw, Lib.hid hMw, bw10.setCell (by exact hs9) _⟩
                case rest =>
                  obtain ⟨pd, Aw, cw, Rw, rfl, rfl, hpd, hRw, hVw, hMw, bc⟩ := hcut
                  have hB2 := below_next hB bc
                  clear hB bc hown HOWN hofW hrsW hss hof hRA
                  generalize wc = X at *
                  have c0 := hpd.c0
                  have c1 := (HQ.out.1.below hB2).c0
                  have H1 := Lib.hid (psame_yes Aw A K cw c Rw R X hRw (HRW.out.below hB2) hVw HP.out.1 hMw.out)
                  clear hRw hVw hMw
                  go_wp2_with fail
                  clear c0 c1 hpd
                  refine H1.out.mono ?_; rintro e X1 ⟨rfl, bx1⟩
                  have hB3 := below_next hB2 bx1
                  clear hB2 bx1 H1
                  have c0 := (HQ.out.1.below hB3).c0
                  have c1 := (HQ.out.2.1.below hB3).c0
                  have c2 := (HQ.out.2.1.below hB3).c1
                  have H1 := Lib.hid (h1.out X1 (below_next HB.out hB3))
                  unfold SetOk at H1
                  go_wp2_with fail
                  clear c0 c1 c2
                  refine H1.out.mono ?_; rintro e X2 ⟨g1, rfl, _, hg1, b2⟩
                  have bx := bnew X2 (.cells #[.int .i64 (K : Int), .slice (some ⟨g1, 0, none⟩) mw mw] 37)
                  have q4 := setAt_new X2 (K : Int) (some ⟨g1, 0, none⟩) mw mw
                  have hB4 := below_next (below_next hB3 b2) bx
                  have HG1 := Lib.hid (row_below hg1 bx)
                  clear hg1 b2 bx hB3 H1 h1
                  go_upto_region 28 with fail
                  generalize X2.heap.size = p4 at *
                  generalize X2.alloc (.cells #[.int .i64 (K : Int), .slice (some ⟨g1, 0, none⟩) mw mw] 37) = X3 at *
                  have c0 := (HQ.out.1.below hB4).c0
                  have c1 := q4.c0
                  have c2 := q4.c1
                  have H1 := Lib.hid (hS2.out X3 g1 HG1.out)
                  go_wp2_with fail
                  clear c0 c1 c2
                  refine H1.out.mono ?_; rintro e X4 ⟨rfl, b4⟩
                  have hB5 := below_next hB4 b4
                  have q4 := q4.below b4
                  have HG1 := Lib.hid (row_below HG1.out b4)
                  clear b4 hB4 H1
                  have c0 := (HQ.out.1.below hB5).c0
                  have c1 := q4.c0
                  have c2 := q4.c1
                  have H1 := Lib.hid (h4.out X4 g1 (below_next HB.out hB5) HG1.out)
                  unfold RelOk at H1
                  go_wp2_with fail
                  clear c0 c1 c2
                  refine H1.out.mono ?_; rintro e X5 ⟨Ap, cp, Rp, rfl, hRp, _, hVp, hMp, b5⟩
                  have bx := bnew X5 (.cells #[.slice Ap k2 cp] 24)
                  have q5 := relAt_new X5 Ap k2 cp
                  have hB6 := below_next (below_next hB5 b5) bx
                  have q4 := (q4.below b5).below bx
                  have HG1 := Lib.hid (row_below (row_below HG1.out b5) bx)
                  have HRp := Lib.hid (hRp.below bx)
                  have HPp : Hid (POrd k2 Rp) := Lib.hid ⟨hVp, pok_congr hMp hTo2.out⟩
                  have HMp := Lib.hid hMp
                  clear hRp hVp hMp b5 bx hB5 H1 h4
                  go_upto_region 31 with fail
                  generalize X5.heap.size = p5 at *
                  generalize X5.alloc (.cells #[.slice Ap k2 cp] 24) = X6 at *
                  have c0 := (HQ.out.1.below hB6).c0
                  have H1 := Lib.hid (levels_any A K c R X6 (HRW.out.below hB6) (by omega) (HTW.out.below hB6))
                  unfold LevEnd at H1
                  go_wp2_with fail
                  clear c0
                  refine H1.out.mono ?_; rintro e X7 (⟨_, o, g7, ho, rfl, _, hg7, b7⟩ | ⟨hno, _⟩)
                  rotate_left
                  · exact absurd HP.out hno
                  obtain ⟨hto, hol⟩ := order_topo ho
                  obtain ⟨L, hL⟩ : ∃ L, lvK (mat R) K o K = L := ⟨_, rfl⟩
                  have HLV : Hid (IsLev K (mat R) L) := Lib.hid (hL ▸ lvK_lev hto hol)
                  rw [hL] at hg7
                  have hB7 := below_next hB6 b7
                  have HG7 := Lib.hid hg7
                  have q4 := q4.below b7
                  have q5 := q5.below b7
                  have HG1 := Lib.hid (row_below HG1.out b7)
                  have HRp := Lib.hid (HRp.out.below b7)
                  clear hg7 b7 hB6 H1 ho hto hol hL
                  have c0 := q5.c0
                  have H1 := Lib.hid (levels_any Ap k2 cp Rp X7 HRp.out (by omega) (HTW.out.below hB7))
                  unfold LevEnd at H1
                  go_wp2_with fail
                  clear c0
                  refine H1.out.mono ?_; rintro e X8 (⟨_, o2, g8, ho, rfl, _, hg8, b8⟩ | ⟨hno, _⟩)
                  rotate_left
                  · exact absurd HPp.out hno
                  obtain ⟨hto, hol⟩ := order_topo ho
                  obtain ⟨L2, hL⟩ : ∃ L, lvK (mat Rp) k2 o2 k2 = L := ⟨_, rfl⟩
                  have HLE : Hid (∀ i, i < k2 → L2 i = L (m2.getD i 0)) := Lib.hid (lev_unique (lev_congr (hL ▸ lvK_lev hto hol) HMp.out) (hlp.out L HLV.out))
                  rw [hL] at hg8
                  have hB8 := below_next hB7 b8
                  have HG8 := Lib.hid hg8
                  have HG7 := Lib.hid (row_below HG7.out b8)
                  have q4 := q4.below b8
                  have HG1 := Lib.hid (row_below HG1.out b8)
                  clear hg8 b8 hB7 H1 ho hto hol hL q5 HRp HPp HMp hlp HLV
                  have c0 := q4.c0
                  have c1 := q4.c1
                  have H1 := Lib.hid (hM2.out X8 g1 HG1.out)
                  unfold RowOut at H1
                  go_wp2_with fail
                  clear c0 c1
                  refine H1.out.mono ?_; rintro e X9 ⟨vm2, rfl, hown2, b9⟩
                  obtain ⟨A2, c2, rfl, hI2, _⟩ := own_ints hown2
                  rw [HK2.out] at hI2 ⊢
                  have hB9 := below_next hB8 b9
                  have HG8 := Lib.hid (row_below HG8.out b9)
                  have HG7 := Lib.hid (row_below HG7.out b9)
                  have HI2 := Lib.hid hI2
                  clear b9 hB8 H1 q4 HG1 hM2 hown2 hI2
                  have qn : ((K : Int) != (K : Int)) = false := by simp
                  have qk2 : ((k2 : Int) != (k2 : Int)) = false := by simp
                  go_wp2_with fail
                  clear qn qk2
                  go_loopw [175] (fun i wx => ∃ Q : Nat, Q ≤ k2 ∧ i = .int .i64 Q ∧ Below X9.heap.size X9 wx) (fun i _ => k2 - (intOf i).toNat)
                  case atStart => exact ⟨0, Nat.zero_le _, rfl, Below.refl _ _⟩
                  case round =>
                    obtain ⟨Q, hQ, rfl, hBQ⟩ := hrel
                    by_cases hltQ : Q < k2
                    · have hwrap : IntKind.i64.wrap ((Q : Int) + 1) = (Q : Int) + 1 := IntWalk.i64_in _ (by omega)
                      obtain ⟨bm, om, rfl, hbm, hcm⟩ := (HI2.out.below hBQ) (by omega)
                      have z0 := hcm Q hltQ
                      unfold gets at z0
                      have hqn := hmn2.out Q hltQ
                      have hle := HLE.out Q hltQ
                      generalize m2.getD Q 0 = a at *
                      have z1 : wr.cell? ⟨g8, Q, none⟩ = some (.int .i64 (L2 Q)) := (row_below HG8.out hBQ).cell hltQ
                      rw [hle] at z1
                      have z2 : wr.cell? ⟨g7, a, none⟩ = some (.int .i64 (L a)) := (row_below HG7.out hBQ).cell hqn
                      have qL : (L a != L a) = false := by simp
                      generalize L a = la at *
                      have han : decide (a < K) = true := decide_eq_true hqn
                      clear hcm hle
                      go_upto_region 39 with fail
                      go_quiet (fail)
                      have hB10 := below_next hBQ (below_drewN (Below.refl wr.heap.size wr) 1)
                      clear z0 z1 z2
                      go_wp2_with fail
                      go_roundw
                      case rel => exact ⟨Q + 1, hltQ, by go_num, below_next hBQ (below_drewN (Below.refl _ _) _)⟩
                      case measure => simp [intOf]; omega
                    · go_wp2_with fail
                      go_ret
                      exact ⟨rfl, below_next HB.out (below_next hB9 hBQ)⟩
end Go.Proofs.YtakjdihhbndcnaaDoor
