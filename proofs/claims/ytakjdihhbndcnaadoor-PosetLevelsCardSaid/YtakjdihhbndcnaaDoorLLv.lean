/- The law PosetLevels: the walk. -/
import Derived.Test.YtakjdihhbndcnaaDoorLEn
import Derived.Test.YtakjdihhbndcnaaDoorPLes
namespace Go.Proofs.YtakjdihhbndcnaaDoor
open Go.RowKit Go.Sort
theorem lev_cov {n : Nat} {R : Nat → RowD} {L : Nat → Int} (hP : POrd n R) (hL : IsLev n (mat R) L) {j : Nat} (hj : j < n) (h0 : ¬ L j = 0) : ∃ i, i < n ∧ red n (mat R) i j = true ∧ L i = L j - 1 := by
  rcases (hL.2 j hj).2 with e | ⟨i, hi, ht, e⟩
  · exact absurd e h0
  · refine ⟨i, hi, ?_, by omega⟩
    unfold red
    rw [Bool.and_eq_true]
    refine ⟨ht, ?_⟩
    rw [Bool.not_eq_true', ← Bool.not_eq_true]
    intro hc
    obtain ⟨k, hk, h1, h2⟩ := comp_iff.1 hc
    rw [pord_clo hP.2 hk hj] at h2
    have h3 := hL.1 i hi k hk h1
    have h4 := hL.1 k hk j hj h2
    omega
theorem lev_min {n : Nat} {T : Nat → Nat → Bool} {L : Nat → Int} (hL : IsLev n T L) {j : Nat} (hj : j < n) : minT n T j = decide (L j = 0) := by
  unfold minT
  rw [Bool.eq_iff_iff, Bool.not_eq_true', List.any_eq_false, decide_eq_true_eq]
  constructor
  · intro h
    rcases (hL.2 j hj).2 with e | ⟨i, hi, ht, e⟩
    · exact e
    · exact absurd ht (h i (List.mem_range.2 hi))
  · intro h k hk ht
    have h1 := hL.1 k (List.mem_range.1 hk) j hj ht
    have h2 := (hL.2 k (List.mem_range.1 hk)).1
    omega
set_option maxRecDepth 100000 in
set_option maxHeartbeats 8000000 in
theorem lv_law (A : Option Addr) (n c : Nat) (R : Nat → RowD) (w : World) (ha : Rel w A n R) (hT : Tab w) :
    Calls Tryd.prog 9 #[.agg #[.slice A n c]] w fun e w' => e = .returned (.bool true) ∧ Below w.heap.size w w' := by
  have HR := Lib.hid ha
  clear ha
  have hT0 : Eb w (w.alloc (.cells #[.slice A n c] 24)) A n c := ⟨relAt_new w A n c, (Below.refl _ _).alloc (Nat.le_refl _) _⟩
  go_enter Tryd.func9, Tryd.ntmps9
  go_upto_region 1 with fail
  generalize w.alloc (.cells #[.slice A n c] 24) = W at *
  go_wp2_with fail
  refine (awake_any W (hT.below hT0.f)).mono ?_; rintro e w1 ⟨rfl, b1⟩
  have hT1 := hT0.next b1
  clear hT0 b1
  obtain ⟨v1, hv1⟩ : ∃ v : Bool, v = true ↔ Few n R := ⟨@decide _ (Classical.propDecidable _), @decide_eq_true_iff _ (Classical.propDecidable _)⟩
  have HF1 := Lib.hid (few_any A n c R v1 w1 (HR.out.below hT1.f) hv1)
  have HV1 := Lib.hid hv1
  clear hv1
  have c0 := hT1.a.c0
  go_wp2_with fail
  refine HF1.out.mono ?_; rintro e w2 ⟨rfl, b2⟩
  have hT2 := hT1.next b2
  clear hT1 b2 c0 HF1
  cases v1 with
  | false =>
    go_wp2_with fail
    refine (awake_any w2 (hT.below hT2.f)).mono ?_; rintro e w3 ⟨rfl, b3⟩
    go_wp2_with fail
    go_ret
    exact ⟨rfl, below_next hT2.f b3⟩
  | true =>
    have hn := (HV1.out.1 rfl).1
    clear HV1
    obtain ⟨vp, hvp⟩ : ∃ v : Bool, v = true ↔ POrd n R := ⟨@decide _ (Classical.propDecidable _), @decide_eq_true_iff _ (Classical.propDecidable _)⟩
    have HVP := Lib.hid hvp
    have HV := Lib.hid (rpvalid_any A n c R vp w2 (HR.out.below hT2.f) (by omega) hvp)
    clear hvp
    have c0 := hT2.a.c0
    go_wp2_with fail
    refine HV.out.mono ?_; rintro e w3 ⟨rfl, b3⟩
    have hT3 := hT2.next b3
    clear hT2 b3 c0 HV
    cases vp with
    | false =>
      go_wp2_with fail
      refine (awake_any w3 (hT.below hT3.f)).mono ?_; rintro e w4 ⟨rfl, b4⟩
      go_wp2_with fail
      go_ret
      exact ⟨rfl, below_next hT3.f b4⟩
    | true =>
      have hP := HVP.out.1 rfl
      have HP := Lib.hid hP
      clear HVP hP
      have c0 := hT3.a.c0
      have H1 := Lib.hid (levels_any A n c R w3 (HR.out.below hT3.f) (by omega) (hT.below hT3.f))
      unfold LevEnd at H1
      go_wp2_with fail
      clear c0
      refine H1.out.mono ?_; rintro e w4 (⟨_, o, g3, ho, rfl, _, hg3, b4⟩ | ⟨hno, _⟩)
      rotate_left
      · exact absurd HP.out hno
      obtain ⟨hto, hol⟩ := order_topo ho
      obtain ⟨L, hL⟩ : ∃ L, lvK (mat R) n o n = L := ⟨_, rfl⟩
      have HLV : Hid (IsLev n (mat R) L) := Lib.hid (hL ▸ lvK_lev hto hol)
      have HLT : Hid (∀ j, j < n → L j < n) := Lib.hid fun j hj => hL ▸ lvK_lt hto hol hj
      rw [hL] at hg3
      have hT4 := hT3.next b4
      have HG3 := Lib.hid hg3
      clear hg3 b4 hT3 H1 ho hto hol hL
      have c0 := hT4.a.c0
      have H1 := Lib.hid (minl_on A n c R w4 (HR.out.below hT4.f) (hT.below hT4.f) HP.out)
      unfold EndsEnd DownOk at H1
      obtain ⟨mw, hmw⟩ : ∃ mw, (n + 63) / 64 = mw := ⟨_, rfl⟩
      rw [hmw] at H1
      have HMW := Lib.hid hmw
      obtain ⟨f1, hf1⟩ : ∃ f, setF (tl (minT n (mat R)) true n) = f := ⟨_, rfl⟩
      rw [hf1] at H1
      have hvf : Vld (n : Int) mw f1 := by rw [← hmw, ← hf1]; exact setF_vld HP.out.1.1 (fun x hx => (tl_mem.1 hx).1)
      have hbf : ∀ j, j < n → bt f1 j = decide (L j = 0) := fun j hj => by
        rw [← hf1, Bool.eq_iff_iff, setF_bt, tl_mem, lev_min HLV.out hj]
        exact ⟨fun h => h.2, fun h => ⟨hj, h⟩⟩
      have huf : U64 f1 mw := by rw [← hf1]; exact setF_u64 _ _
      have HVF := Lib.hid hvf
      have HBF := Lib.hid hbf
      have HUF := Lib.hid huf
      clear hmw hf1 hvf hbf huf
      go_wp2_with fail
      clear c0
      refine H1.out.mono ?_; rintro e w5 (⟨_, g1, rfl, _, hg1, b5⟩ | ⟨hno, _⟩)
      rotate_left
      · exact absurd HP.out hno
      have bx := bnew w5 (.cells #[.int .i64 (n : Int), .slice (some ⟨g1, 0, none⟩) mw mw] 37)
      have q1 := setAt_new w5 (n : Int) (some ⟨g1, 0, none⟩) mw mw
      have hT6 := (hT4.next b5).next bx
      have HG1 := Lib.hid (row_below hg1 bx)
      have HG36 := Lib.hid (row_below (row_below HG3.out b5) bx)
      clear hg1 b5 bx hT4 H1 HG3
      go_upto_region 5 with fail
      generalize w5.heap.size = p1 at *
      generalize w5.alloc (.cells #[.int .i64 (n : Int), .slice (some ⟨g1, 0, none⟩) mw mw] 37) = w6 at *
      have c0 := hT6.a.c0
      have H1 := Lib.hid (covers_any A n c R w6 (HR.out.below hT6.f) (by omega) (hT.below hT6.f))
      unfold CovEnd at H1
      go_wp2_with fail
      clear c0
      refine H1.out.mono ?_; rintro e w7 (⟨_, hc⟩ | ⟨hno, _⟩)
      rotate_left
      · exact absurd HP.out hno
      obtain ⟨Ac, cc, Rc, rfl, hRc, _, hVc, hMc, b7⟩ := hc
      have bx := bnew w7 (.cells #[.slice Ac n cc] 24)
      have rc := relAt_new w7 Ac n cc
      have hT8 := (hT6.next b7).next bx
      have q18 := (q1.below b7).below bx
      have HG18 := Lib.hid (row_below (row_below HG1.out b7) bx)
      have HG38 := Lib.hid (row_below (row_below HG36.out b7) bx)
      have HRc := Lib.hid (hRc.below bx)
      have HVc := Lib.hid hVc
      have HMc := Lib.hid hMc
      clear hRc hVc hMc b7 bx hT6 H1 q1 HG1 HG36
      go_upto_region 6 with fail
      generalize w7.heap.size = p2 at *
      generalize w7.alloc (.cells #[.slice Ac n cc] 24) = w8 at *
      have c0 := hT8.a.c0
      have c1 := rc.c0
      have HFm := Lib.hid (rform_any Ac n cc Rc true w8 HRc.out (by omega) ⟨fun _ => HVc.out, fun _ => rfl⟩)
      have qn : ((n : Int) != (n : Int)) = false := by simp
      go_wp2_with fail
      clear c0 c1
      refine HFm.out.mono ?_; rintro e w9 ⟨rfl, b9⟩
      have hT9 := hT8.next b9
      have HQ := Lib.hid (And.intro hT9.a (And.intro (q18.below b9) (rc.below b9)))
      have HG19 := Lib.hid (row_wds (row_below HG18.out b9) HUF.out)
      have HG39 := Lib.hid (row_below HG38.out b9)
      have HRc9 := Lib.hid (HRc.out.below b9)
      have HB9 := Lib.hid hT9.f
      have HRA := Lib.hid (HR.out.below hT9.f)
      have HTT := Lib.hid (hT.below hT9.f)
      clear hT8 b9 q18 rc HG18 HG38 HRc HFm HR hT9
      generalize w9 = W at *
      go_wp2_with fail
      go_loopw [73] (fun i wr => ∃ K : Nat, K ≤ n ∧ i = .int .i64 K ∧ Below W.heap.size W wr) (fun i _ => n - (intOf i).toNat)
      case atStart => exact ⟨0, Nat.zero_le _, rfl, Below.refl _ _⟩
      case round =>
        obtain ⟨J, hJ, rfl, hB⟩ := hrel
        by_cases hlt : J < n
        · have hwrap : IntKind.i64.wrap ((J : Int) + 1) = (J : Int) + 1 := IntWalk.i64_in _ (by omega)
          have hl0 := (HLV.out.2 J hlt).1
          have hln := HLT.out J hlt
          have d1 : decide (L J < 0) = false := decide_eq_false (by omega)
          have d2 : decide ((n : Int) ≤ L J) = false := decide_eq_false (by omega)
          obtain ⟨v, hv⟩ : ∃ v, (L J == 0) = v := ⟨_, rfl⟩
          have hvb : bt f1 J = v := by rw [HBF.out J hlt, ← hv]; rfl
          have k0 := cell_regrown ((HQ.out.2.1.below hB).c0)
          have k1 := cell_regrown ((HQ.out.2.1.below hB).c1)
          have k2 := cell_regrown (show wr.cell? ⟨g3, J, none⟩ = some (.int .i64 (L J)) from (row_below HG39.out hB).cell hlt)
          have CA := Lib.hid (fun d os => Calls.regrown_of (refHas_in n J (some ⟨g1, 0, none⟩) mw mw f1 v (grow (redrawn wr d) os) ((HG19.out.below hB).below (below_regrown wr d os)) HVF.out hlt hvb))
          have qv : (v != v) = false := by cases v <;> rfl
          have HVV := Lib.hid hv
          clear hvb
          go_upto_region 12 with fail
          refine wp_region_quiet_below (by kernel_rfl) (by kernel_rfl) ?_
          repeat (first | go_big_quiet_step (first | with_reducible exact CA.out _ _) | quiet_step (first | with_reducible exact CA.out _ _))
          refine wpQuiet_nil ?_
          intro _ hw'
          obtain ⟨⟨dq, osq⟩, hw''⟩ := hw'
          subst hw''
          clear k0 k1 k2 CA
          have hB2 := below_next hB (below_regrown wr dq osq)
          clear hB
          generalize grow (redrawn wr dq) osq = wr at *
          have x0 : wr.cell? ⟨g3, J, none⟩ = some (.int .i64 (L J)) := (row_below HG39.out hB2).cell hlt
          go_wp2_with fail
          clear x0
          go_loopw [106, 11] (fun i f wr => ∃ (I : Nat) (b : Bool), I ≤ n ∧ i = .int .i64 I ∧ f = .bool b ∧ Hid (b = true ↔ L J = 0 ∨ ∃ k, k < I ∧ red n (mat R) k J = true ∧ L k = L J - 1) ∧ Below W.heap.size W wr) (fun i _ _ => n - (intOf i).toNat)
          case atStart => exact ⟨0, v, Nat.zero_le _, rfl, rfl, Lib.hid ⟨fun h => .inl (by have := HVV.out; rw [h] at this; exact beq_iff_eq.1 this), fun h => by rcases h with h | ⟨k, hk, _⟩; (· rw [← HVV.out]; exact beq_iff_eq.2 h); (· omega)⟩, hB2⟩
          case round =>
            clear hB2
            obtain ⟨I, b, hI, rfl, rfl, HF, hB⟩ := hrel
            by_cases hltI : I < n
            · have hwrap2 : IntKind.i64.wrap ((I : Int) + 1) = (I : Int) + 1 := IntWalk.i64_in _ (by omega)
              have hI0 := (HLV.out.2 I hltI).1
              have hIn := HLT.out I hltI
              obtain ⟨t, ht⟩ : ∃ t, mat R I J = t := ⟨_, rfl⟩
              have d3 : t = true → decide (L J ≤ L I) = false := fun h => decide_eq_false (by have := HLV.out.1 I hltI J hlt (ht.trans h); omega)
              have HD3 := Lib.hid d3
              have k0 := cell_regrown ((HQ.out.1.below hB).c0)
              have k1 := cell_regrown (show wr.cell? ⟨g3, J, none⟩ = some (.int .i64 (L J)) from (row_below HG39.out hB).cell hlt)
              have k2 := cell_regrown (show wr.cell? ⟨g3, I, none⟩ = some (.int .i64 (L I)) from (row_below HG39.out hB).cell hltI)
              have CA := Lib.hid (fun d os => Calls.regrown_of (less_on A n c I R J t (grow (redrawn wr d) os) ((HRA.out.below hB).below (below_regrown wr d os)) ((HTT.out.below hB).below (below_regrown wr d os)) HP.out hltI (by rw [Int.toNat_natCast, ht]; exact ⟨fun h => ⟨by omega, by omega, h⟩, fun h => h.2.2⟩)))
              clear d3 ht
              obtain ⟨r, hr⟩ : ∃ r, red n (mat R) I J = r := ⟨_, rfl⟩
              obtain ⟨q, hq⟩ : ∃ q, (L I == L J - 1) = q := ⟨_, rfl⟩
              have HRR := Lib.hid hr
              have HQQ := Lib.hid hq
              clear hr hq
              have hcut : ∃ (b2 : Bool), (b || (r && q)) = b2 ∧ Hid (b2 = true ↔ L J = 0 ∨ ∃ k, k < I + 1 ∧ red n (mat R) k J = true ∧ L k = L J - 1) := by
                refine ⟨_, rfl, Lib.hid ?_⟩
                rw [Bool.or_eq_true, Bool.and_eq_true, HF.out]
                constructor
                · rintro ((h | ⟨k, hk, h⟩) | ⟨h1, h2⟩)
                  · exact .inl h
                  · exact .inr ⟨k, by omega, h⟩
                  · exact .inr ⟨I, by omega, HRR.out.trans h1, beq_iff_eq.1 (HQQ.out.trans h2)⟩
                · rintro (h | ⟨k, hk, h1, h2⟩)
                  · exact .inl (.inl h)
                  · by_cases e : k = I
                    · subst e; exact .inr ⟨HRR.out.symm.trans h1, HQQ.out.symm.trans (beq_iff_eq.2 h2)⟩
                    · exact .inl (.inr ⟨k, by omega, h1, h2⟩)
              obtain ⟨b2, hb2, HF2⟩ := hcut
              have HB2 := Lib.hid hb2
              clear hb2 HF
              have hcell : Hid (Rel wr Ac n Rc) := Lib.hid (HRc9.out.below hB)
              go_upto_region 18 with fail
              go_cut [123] from 109 to 123 (fun x wx => x = .bool false ∧ Below wr.heap.size wr wx)
              case first =>
                cases t with
                | false =>
                  refine wp_region_quiet_below (by kernel_rfl) (by kernel_rfl) ?_
                  repeat (first | go_big_quiet_step (first | with_reducible exact CA.out _ _) | quiet_step (first | with_reducible exact CA.out _ _))
                  refine wpQuiet_nil ?_
                  intro _ hw'
                  obtain ⟨⟨dq, osq⟩, hw''⟩ := hw'
                  subst hw''
                  go_wp2_with fail
                  go_meet
                  exact ⟨rfl, below_regrown wr dq osq⟩
                | true =>
                  have d3 := HD3.out rfl
                  refine wp_region_quiet_below (by kernel_rfl) (by kernel_rfl) ?_
                  repeat (first | go_big_quiet_step (first | with_reducible exact CA.out _ _) | quiet_step (first | with_reducible exact CA.out _ _))
                  refine wpQuiet_nil ?_
                  intro _ hw'
                  obtain ⟨⟨dq, osq⟩, hw''⟩ := hw'
                  subst hw''
                  go_wp2_with fail
                  go_meet
                  exact ⟨rfl, below_regrown wr dq osq⟩
              case rest =>
                obtain ⟨rfl, bc⟩ := hcut
                have hB3 := below_next hB bc
                have hcell3 := Lib.hid (hcell.out.below bc)
                clear hB bc hcell k0 k1 k2 CA HD3
                generalize wc = wr at *
                go_upto_region 20 with fail
                cases b with
                | true =>
                  obtain rfl : b2 = true := HB2.out.symm
                  clear hcell3
                  go_quiet (fail)
                  have hB4 := below_next hB3 (below_drewN (Below.refl wr.heap.size wr) 1)
                  go_wp2_with fail
                  go_roundw
                  case rel => exact ⟨I + 1, true, hltI, by go_num, rfl, HF2, below_next hB3 (below_drewN (Below.refl _ _) _)⟩
                  case measure => simp [intOf]; omega
                | false =>
                  obtain ⟨bA, oA, rfl, hbl, hcz⟩ := hcell3.out (by omega)
                  obtain ⟨x0, x1, xw⟩ := hcz I hltI
                  have hvk := HVc.out.2 I hltI
                  rw [hvk.1] at x0
                  have k0 := cell_regrown ((HQ.out.2.2.below hB3).c0)
                  have k1 := cell_regrown x0
                  have k2 := cell_regrown x1
                  have k3 := cell_regrown (show wr.cell? ⟨g3, J, none⟩ = some (.int .i64 (L J)) from (row_below HG39.out hB3).cell hlt)
                  have k4 := cell_regrown (show wr.cell? ⟨g3, I, none⟩ = some (.int .i64 (L I)) from (row_below HG39.out hB3).cell hltI)
                  have hrb : bt (Rc I).f J = r := (HMc.out I hltI J hlt).trans HRR.out
                  have CA := Lib.hid (fun d os => Calls.regrown_of (refHas_in n J (Rc I).A (Rc I).l (Rc I).c (Rc I).f r (grow (redrawn wr d) os) (xw.below (below_regrown wr d os)) hvk.2 hlt hrb))
                  have hq := HQQ.out
                  have hw : IntKind.i64.wrap (L J - 1) = L J - 1 := IntWalk.i64_in _ (by omega)
                  clear hcz xw hvk hrb x0 x1 hcell3
                  generalize (Rc I).A = A1 at *
                  generalize (Rc I).l = l1 at *
                  generalize (Rc I).c = c1 at *
                  cases r with
                  | false =>
                    obtain rfl : b2 = false := HB2.out.symm
                    refine wp_region_quiet_below (by kernel_rfl) (by kernel_rfl) ?_
                    repeat (first | go_big_quiet_step (first | with_reducible exact CA.out _ _) | quiet_step (first | with_reducible exact CA.out _ _))
                    refine wpQuiet_nil ?_
                    intro _ hw'
                    obtain ⟨⟨dq, osq⟩, hw''⟩ := hw'
                    subst hw''
                    have hB4 := below_next hB3 (below_regrown wr dq osq)
                    clear hB3 k0 k1 k2 k3 k4 CA hw hq
                    go_wp2_with fail
                    go_roundw
                    case rel => exact ⟨I + 1, false, hltI, by go_num, rfl, HF2, hB4⟩
                    case measure => simp [intOf]; omega
                  | true =>
                    cases q with
                    | false =>
                      obtain rfl : b2 = false := HB2.out.symm
                      refine wp_region_quiet_below (by kernel_rfl) (by kernel_rfl) ?_
                      repeat (first | go_big_quiet_step (first | with_reducible exact CA.out _ _) | quiet_step (first | with_reducible exact CA.out _ _))
                      refine wpQuiet_nil ?_
                      intro _ hw'
                      obtain ⟨⟨dq, osq⟩, hw''⟩ := hw'
                      subst hw''
                      have hB4 := below_next hB3 (below_regrown wr dq osq)
                      clear hB3 k0 k1 k2 k3 k4 CA hw hq
                      go_wp2_with fail
                      go_roundw
                      case rel => exact ⟨I + 1, false, hltI, by go_num, rfl, HF2, hB4⟩
                      case measure => simp [intOf]; omega
                    | true =>
                      obtain rfl : b2 = true := HB2.out.symm
                      refine wp_region_quiet_below (by kernel_rfl) (by kernel_rfl) ?_
                      repeat (first | go_big_quiet_step (first | with_reducible exact CA.out _ _) | quiet_step (first | with_reducible exact CA.out _ _))
                      refine wpQuiet_nil ?_
                      intro _ hw'
                      obtain ⟨⟨dq, osq⟩, hw''⟩ := hw'
                      subst hw''
                      have hB4 := below_next hB3 (below_regrown wr dq osq)
                      clear hB3 k0 k1 k2 k3 k4 CA hw hq
                      go_wp2_with fail
                      go_roundw
                      case rel => exact ⟨I + 1, true, hltI, by go_num, rfl, HF2, hB4⟩
                      case measure => simp [intOf]; omega
            · obtain rfl : I = n := by omega
              have hbt : b = true := HF.out.2 (by
                by_cases h0 : L J = 0
                · exact .inl h0
                · obtain ⟨i, hi, h1, h2⟩ := lev_cov HP.out HLV.out hlt h0
                  exact .inr ⟨i, hi, h1, h2⟩)
              subst hbt
              clear HF
              go_wp2_with fail
              go_roundw
              case rel => exact ⟨J + 1, hlt, by go_num, hB⟩
              case measure => simp [intOf]; omega
        · go_wp2_with fail
          go_ret
          exact ⟨rfl, below_next HB9.out hB⟩
end Go.Proofs.YtakjdihhbndcnaaDoor
