/- The law MatchingMax: the walk. -/
import Derived.Test.YtmafnncpdccfdaaLKo
import Derived.Test.YtmafnncpdccfdaaMRcv
namespace Go.Proofs.Ytmafnncpdccfdaa
open Go.RowKit Go.Sort
theorem wds_none (w : World) : Wds w none 0 (fun _ => 0) := ⟨fun _ h => absurd h (Nat.not_lt_zero _), fun h => absurd h (Nat.lt_irrefl _)⟩
def MxP (N M : Int) (k c : Nat) (A : Option Addr) (w : World) : Prop :=
  Calls Try.prog 3 #[.int .i64 N, .int .i64 M, .slice A k c] w fun e w' => e = .returned (.bool true) ∧ Below w.heap.size w w'
set_option maxRecDepth 100000 in
set_option maxHeartbeats 4000000 in
theorem mx_no (N M : Int) (k c : Nat) (A : Option Addr) (E : Nat → Int × Int) (w : World) (h : Prs w A k E) (hv : ¬ VG N M k E) : MxP N M k c A w := by
  have HH := Lib.hid h
  have HV := Lib.hid hv
  clear h hv
  go_enter Try.func3, Try.ntmps3
  go_wp2_with fail
  refine (awake_any _).mono ?_; rintro e w1 ⟨rfl, b1⟩
  go_wp2_with fail
  refine (great_any N M k c A w1).mono ?_; rintro e w2 ⟨⟨v0, rfl⟩, rfl⟩
  cases v0 with
  | true =>
    go_wp2_with fail
    go_ret
    exact ⟨rfl, b1⟩
  | false =>
    go_wp2_with fail
    refine (max_err N M A k c E w1 (HH.out.below b1) HV.out).mono ?_; rintro e w2 ⟨rfl, b2⟩
    have B2 := below_next b1 b2
    go_wp2_with fail
    refine (cover_err N M A k c E w2 (HH.out.below B2) HV.out).mono ?_; rintro e w3 ⟨rfl, b3⟩
    have B3 := below_next B2 b3
    have hS := two_new w3 0 0 none none 0 0 0 0
    have B4 := below_next B3 hS.b
    clear b1 b2 b3 B2 B3
    go_upto_region 7 with fail
    generalize (w3.alloc (.cells #[.int .i64 0, .slice none 0 0] 30)).alloc (.cells #[.int .i64 0, .slice none 0 0] 30) = w4 at *
    go_wp2_with fail
    refine (rValid_no N M A k c E w4 (HH.out.below B4) HV.out).mono ?_; rintro e w5 ⟨rfl, b5⟩
    have hS5 := hS.next b5
    have B5 := below_next B4 b5
    clear hS B4 b5
    go_wp2_with fail
    refine (gvalid_no N M A k c E w5 (HH.out.below B5) HV.out).mono ?_; rintro e w6 ⟨rfl, b6⟩
    have hS6 := hS5.next b6
    have B6 := below_next B5 b6
    clear hS5 B5 b6
    have x0 := hS6.s.c0
    have x1 := hS6.s.c1
    go_wp2_with fail
    refine (refSame_yes 0 none none 0 0 0 (fun _ => 0) w6 (wds_none _) (wds_none _) (by omega)).mono ?_; rintro e w7 ⟨rfl, b7⟩
    have hS7 := hS6.next b7
    have B7 := below_next B6 b7
    clear hS6 B6 b7 x0 x1
    have y0 := hS7.t.c0
    have y1 := hS7.t.c1
    go_wp2_with fail
    refine (refSame_yes 0 none none 0 0 0 (fun _ => 0) w7 (wds_none _) (wds_none _) (by omega)).mono ?_; rintro e w8 ⟨rfl, b8⟩
    have B8 := below_next B7 b8
    clear hS7 B7 b8 y0 y1
    go_wp2_with fail
    go_ret
    exact ⟨rfl, B8⟩
set_option maxRecDepth 100000 in
set_option maxHeartbeats 4000000 in
theorem mx_yes (n m k c : Nat) (A : Option Addr) (E : Nat → Int × Int) (w : World) (h : Prs w A k E) (hv : VG n m k E) : MxP n m k c A w := by
  have hn := hv.n1
  have hm := hv.m1
  have HH := Lib.hid h
  have HV := Lib.hid hv
  obtain ⟨PL, hPL⟩ : ∃ PL, PL = prl (maxS (nbs E k) m n).L n := ⟨_, rfl⟩
  have HPL := Lib.hid hPL
  have hlen : PL.length ≤ n := by rw [hPL]; exact prl_len _ n
  have hMP : Hid (MatP E k (pE PL) PL.length) := by show MatP _ _ _ _; rw [hPL]; exact max_mat hv (maxM hv)
  have hRi : Hid (∀ i, i + 1 < PL.length → (pE PL i).1 < (pE PL (i + 1)).1) := fun i hi => by rw [hPL] at hi ⊢; exact prl_rise _ n i (i + 1) (Nat.lt_succ_self i) hi
  have hMx : Hid (∀ w, Prs w A k E → Calls Try.prog 11 #[.int .i64 n, .int .i64 m, .slice A k c] w (MaxOk w PL)) := fun w h => by rw [hPL]; exact max_ok n m k c A E w h hv
  have hSz : Hid (∀ w, Prs w A k E → Calls Try.prog 19 #[.int .i64 n, .int .i64 m, .slice A k c] w fun e w' => e = .returned (.int .i64 (PL.length : Nat)) ∧ Below w.heap.size w w') := fun w h => by rw [hPL]; exact size_any n m k c A E w h hv
  have hC1 : Hid (∀ k', k' < (n + 63) / 64 → bw (fun v => !mleft n m k E v) n k' = setF (tl (mleft n m k E) false n) k') := fun k' hk' => (same_words (fun i => by rw [tl_mem]; simp) _ k' hk').symm
  have hC2 : Hid (∀ k', k' < (m + 63) / 64 → bw (mseen n m k E) m k' = setF (tl (mseen n m k E) true m) k') := fun k' hk' => (same_words (fun i => by rw [tl_mem]) _ k' hk').symm
  clear h hv hPL
  go_enter Try.func3, Try.ntmps3
  go_wp2_with fail
  refine (awake_any _).mono ?_; rintro e w1 ⟨rfl, b1⟩
  go_wp2_with fail
  refine (great_any n m k c A w1).mono ?_; rintro e w2 ⟨⟨v0, rfl⟩, rfl⟩
  cases v0 with
  | true =>
    go_wp2_with fail
    go_ret
    exact ⟨rfl, b1⟩
  | false =>
    go_wp2_with fail
    refine (hMx.out w1 (HH.out.below b1)).mono ?_; rintro e w2 ⟨v, rfl, hown, b2⟩
    obtain ⟨Ap, cq, rfl, hP⟩ := own_prs hown
    have B2 := below_next b1 b2
    clear hown b2 b1
    go_wp2_with fail
    refine (cover_ok n m k c A E w2 (HH.out.below B2) HV.out).mono ?_; rintro e w3 ⟨gX, gY, rfl, hU, hV, b3⟩
    have B3 := below_next B2 b3
    have HP := Lib.hid (hP.below b3)
    have HU := Lib.hid (hU.wds (setF_u64 _ _))
    have HV2 := Lib.hid (hV.wds (setF_u64 _ _))
    clear B2 hP hU hV b3
    have hS := two_new w3 n m (some ⟨gX, 0, none⟩) (some ⟨gY, 0, none⟩) ((n + 63) / 64) ((n + 63) / 64) ((m + 63) / 64) ((m + 63) / 64)
    have B4 := below_next B3 hS.b
    clear B3
    go_upto_region 7 with fail
    generalize (w3.alloc (.cells #[.int .i64 (n : Int), .slice (some ⟨gX, 0, none⟩) ((n + 63) / 64) ((n + 63) / 64)] 30)).alloc (.cells #[.int .i64 (m : Int), .slice (some ⟨gY, 0, none⟩) ((m + 63) / 64) ((m + 63) / 64)] 30) = w4 at *
    go_wp2_with fail
    refine (rValid_yes n m A k c E w4 (HH.out.below B4) HV.out).mono ?_; rintro e w5 ⟨rfl, b5⟩
    have hS5 := hS.next b5
    have B5 := below_next B4 b5
    clear hS B4 b5
    go_wp2_with fail
    refine (gvalid_yes n m A k c E w5 (HH.out.below B5) HV.out).mono ?_; rintro e w6 ⟨rfl, b6⟩
    have hS6 := hS5.next b6
    have B6 := below_next B5 b6
    clear hS5 B5 b6
    go_wp2_with fail
    refine (rcover_any n m k c A E w6 (HH.out.below B6) HV.out).mono ?_; rintro e w7 ⟨gQ, gR, rfl, hQ, hR, b7⟩
    have hS7 := hS6.next b7
    have B7 := below_next B6 b7
    have HQ := Lib.hid ((hQ.wds (bw_u64 _ _ _)).congr hC1.out)
    have HR := Lib.hid ((hR.wds (bw_u64 _ _ _)).congr hC2.out)
    clear hS6 B6 b7 hQ hR hC1 hC2
    have hT := two_new w7 n m (some ⟨gQ, 0, none⟩) (some ⟨gR, 0, none⟩) ((n + 63) / 64) ((n + 63) / 64) ((m + 63) / 64) ((m + 63) / 64)
    have B8 := below_next B7 hT.b
    have hS8 := hS7.next hT.b
    clear B7 hS7
    go_upto_region 13 with fail
    generalize (w7.alloc (.cells #[.int .i64 (n : Int), .slice (some ⟨gQ, 0, none⟩) ((n + 63) / 64) ((n + 63) / 64)] 30)).alloc (.cells #[.int .i64 (m : Int), .slice (some ⟨gR, 0, none⟩) ((m + 63) / 64) ((m + 63) / 64)] 30) = w8 at *
    generalize setF (tl (mleft n m k E) false n) = F at *
    generalize setF (tl (mseen n m k E) true m) = G at *
    go_wp2_with fail
    refine (rising_any PL.length cq Ap (pE PL) w8 (HP.out.below hS8.b) (by omega) hRi.out).mono ?_; rintro e w9 ⟨rfl, b9⟩
    have hS9 := hS8.next b9
    have hT9 := hT.next b9
    have B9 := below_next B8 b9
    clear hS8 hT B8 b9 hRi
    go_wp2_with fail
    refine (isMat_any n m k c PL.length cq A Ap E (pE PL) true w9 (HH.out.below B9) HV.out (HP.out.below hS9.b) (by omega) ⟨fun _ => hMP.out, fun _ => rfl⟩).mono ?_; rintro e w10 ⟨rfl, b10⟩
    have hS10 := hS9.next b10
    have hT10 := hT9.next b10
    have B10 := below_next B9 b10
    clear hS9 hT9 B9 b10 hMP
    go_wp2_with fail
    refine (hSz.out w10 (HH.out.below B10)).mono ?_; rintro e w11 ⟨rfl, b11⟩
    have hS11 := hS10.next b11
    have hT11 := hT10.next b11
    have B11 := below_next B10 b11
    have qe : (((PL.length : Nat) : Int) == ((PL.length : Nat) : Int)) = true := by simp
    clear hS10 hT10 B10 b11
    have x0 := hS11.s.c0
    have x1 := hS11.s.c1
    have y0 := hT11.s.c0
    have y1 := hT11.s.c1
    go_wp2_with fail
    refine (refSame_yes n (some ⟨gX, 0, none⟩) (some ⟨gQ, 0, none⟩) ((n + 63) / 64) ((n + 63) / 64) ((n + 63) / 64) F w11 (HU.out.below hS11.b) (HQ.out.below hT11.b) (by omega)).mono ?_; rintro e w12 ⟨rfl, b12⟩
    have hS12 := hS11.next b12
    have hT12 := hT11.next b12
    have B12 := below_next B11 b12
    clear hS11 hT11 B11 b12 x0 x1 y0 y1
    have x0 := hS12.t.c0
    have x1 := hS12.t.c1
    have y0 := hT12.t.c0
    have y1 := hT12.t.c1
    go_wp2_with fail
    refine (refSame_yes m (some ⟨gY, 0, none⟩) (some ⟨gR, 0, none⟩) ((m + 63) / 64) ((m + 63) / 64) ((m + 63) / 64) G w12 (HV2.out.below hS12.b) (HR.out.below hT12.b) (by omega)).mono ?_; rintro e w13 ⟨rfl, b13⟩
    have B13 := below_next B12 b13
    clear hS12 hT12 B12 b13 x0 x1 y0 y1
    go_wp2_with fail
    go_ret
    exact ⟨rfl, B13⟩
theorem mx_law (N M : Int) (k c : Nat) (A : Option Addr) (E : Nat → Int × Int) (w : World) (h : Prs w A k E) : MxP N M k c A w := by
  by_cases hv : VG N M k E
  · obtain ⟨n, rfl⟩ := Int.eq_ofNat_of_zero_le hv.n0
    obtain ⟨m, rfl⟩ := Int.eq_ofNat_of_zero_le hv.m0
    exact mx_yes n m k c A E w h hv
  · exact mx_no N M k c A E w h hv
end Go.Proofs.Ytmafnncpdccfdaa
