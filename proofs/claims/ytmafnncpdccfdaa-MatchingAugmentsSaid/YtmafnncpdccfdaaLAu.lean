/- The law MatchingAugments: the walk. -/
import Derived.Test.YtmafnncpdccfdaaMAug
import Derived.Test.YtmafnncpdccfdaaMHal
import Derived.Test.YtmafnncpdccfdaaLMx
namespace Go.Proofs.Ytmafnncpdccfdaa
open Go.RowKit Go.Sort
structure AuM (n k p ll : Nat) (E Z Y : Nat → Int × Int) : Prop where
  mat : MatP E k Y ll
  len : ll = p + 1
  rise : ∀ i, i + 1 < ll → (Y i).1 < (Y (i + 1)).1
  left : ∀ i, i < p → ∃ j, j < ll ∧ (Y j).1 = (Z i).1
  right : ∀ i, i < p → ∃ j, j < ll ∧ (Y j).2 = (Z i).2
def AuF (n k p ll : Nat) (E Z Y : Nat → Int × Int) (code : Int) : Prop :=
  (code = 17 ∧ ll = 0 ∧ ¬ MatP E k Z p) ∨ (code = 0 ∧ MatP E k Z p ∧ AuM n k p ll E Z Y) ∨ (code = 7 ∧ ll = 0 ∧ MatP E k Z p ∧ ∀ Z' p', MatP E k Z' p' → p' ≤ p)
def AuG (w : World) (n k p : Nat) (E Z : Nat → Int × Int) (e : Ending) (w' : World) : Prop :=
  ∃ (Al : Option Addr) (ll cl : Nat) (Y : Nat → Int × Int) (code : Int), e = .returned (.tuple #[.slice Al ll cl, .int .i64 code]) ∧ Prs w' Al ll Y ∧ Below w.heap.size w w' ∧ AuF n k p ll E Z Y code
theorem aug_gen (n m k c p cp : Nat) (A B : Option Addr) (E Z : Nat → Int × Int) (w : World) (h : Prs w A k E) (hv : VG n m k E) (hz : Prs w B p Z) (hwf : ∀ i, i < p → WfP (Z i)) (hp : p ≤ 9000000000000000000) :
    Calls Try.prog 23 #[.int .i64 n, .int .i64 m, .slice A k c, .slice B p cp] w (AuG w n k p E Z) := by
  refine (aug_any n m k c p cp A B E Z w h hv hz hwf hp).mono ?_
  rintro e w' (⟨h1, rfl, b⟩ | ⟨L, v, h1, hF, rfl, hown, b⟩ | ⟨h1, h2, rfl, b⟩)
  · exact ⟨none, 0, 0, Z, 17, rfl, fun h => absurd h (Nat.lt_irrefl _), b, .inl ⟨rfl, rfl, h1⟩⟩
  · obtain ⟨Al, cl, rfl, hP⟩ := own_prs hown
    exact ⟨Al, _, cl, pE (prl L n), 0, rfl, hP, b, .inr (.inl ⟨rfl, h1, ⟨hF.mat, hF.len, fun i hi => prl_rise L n i (i + 1) (Nat.lt_succ_self i) hi, hF.left, hF.right⟩⟩)⟩
  · exact ⟨none, 0, 0, Z, 7, rfl, fun h => absurd h (Nat.lt_irrefl _), b, .inr (.inr ⟨rfl, rfl, h1, h2⟩)⟩
theorem sL_in {Y : Nat → Int × Int} {ll : Nat} {z : Int} (h : ∃ j, j < ll ∧ (Y j).1 = z) : sL Y ll z.toNat = true := by
  obtain ⟨j, hj, e⟩ := h
  exact (sL_eq Y _ ll).2 ((mL_has Y _ ll).2 ⟨j, hj, by rw [e]⟩)
theorem sR_in {Y : Nat → Int × Int} {ll : Nat} {z : Int} (h : ∃ j, j < ll ∧ (Y j).2 = z) : sR Y ll z.toNat = true := by
  obtain ⟨j, hj, e⟩ := h
  exact (sR_eq Y _ ll).2 ((mR_has Y _ ll).2 ⟨j, hj, by rw [e]⟩)
def AuP (N M : Int) (k c p cp : Nat) (A B : Option Addr) (w : World) : Prop :=
  Calls Try.prog 5 #[.int .i64 N, .int .i64 M, .slice A k c, .slice B p cp] w fun e w' => e = .returned (.bool true) ∧ Below w.heap.size w w'
set_option maxRecDepth 100000 in
set_option maxHeartbeats 4000000 in
theorem au_no (N M : Int) (k c p cp : Nat) (A B : Option Addr) (E : Nat → Int × Int) (w : World) (h : Prs w A k E) (hv : ¬ VG N M k E) : AuP N M k c p cp A B w := by
  have HH := Lib.hid h
  have HV := Lib.hid hv
  clear h hv
  go_enter Try.func5, Try.ntmps5
  go_wp2_with fail
  refine (awake_any _).mono ?_; rintro e w1 ⟨rfl, b1⟩
  go_wp2_with fail
  refine (great_any N M k c A w1).mono ?_; rintro e w2 ⟨⟨v0, rfl⟩, rfl⟩
  cases v0 with
  | true =>
    go_wp2_with fail
    go_ret
    exact ⟨rfl, b1⟩
  | false =>
    by_cases hp : 400 < p
    · have q1 : decide (400 < (p : Int)) = true := decide_eq_true (by omega)
      go_wp2_with fail
      go_ret
      exact ⟨rfl, b1⟩
    · have q1 : decide (400 < (p : Int)) = false := decide_eq_false (by omega)
      have HE := Lib.hid (hall_err N M A k c E w1 (HH.out.below b1) HV.out)
      unfold HallErr at HE
      go_wp2_with fail
      refine HE.out.mono ?_; rintro e w2 ⟨rfl, b2⟩
      have B2 := below_next b1 b2
      have hS := one_new w2 0 none 0 0
      have B3 := below_next B2 hS.b
      clear b1 b2 B2 HE q1
      go_upto_region 6 with fail
      generalize w2.alloc (.cells #[.int .i64 0, .slice none 0 0] 30) = w3 at *
      go_wp2_with fail
      refine (aug_err N M A B k c p cp E w3 (HH.out.below B3) HV.out).mono ?_; rintro e w4 ⟨rfl, b4⟩
      have hS4 := hS.next b4
      have B4 := below_next B3 b4
      clear hS B3 b4
      go_wp2_with fail
      refine (rValid_no N M A k c E w4 (HH.out.below B4) HV.out).mono ?_; rintro e w5 ⟨rfl, b5⟩
      have hS5 := hS4.next b5
      have B5 := below_next B4 b5
      clear hS4 B4 b5
      have x0 := hS5.s.c0
      have x1 := hS5.s.c1
      go_wp2_with fail
      refine (refSame_yes 0 none none 0 0 0 (fun _ => 0) w5 (wds_none _) (wds_none _) (by omega)).mono ?_; rintro e w6 ⟨rfl, b6⟩
      have B6 := below_next B5 b6
      clear hS5 B5 b6 x0 x1
      go_wp2_with fail
      go_ret
      exact ⟨rfl, B6⟩
set_option maxRecDepth 100000 in
set_option maxHeartbeats 4000000 in
theorem au_yes (n m k c p cp : Nat) (A B : Option Addr) (E Z : Nat → Int × Int) (w : World) (h : Prs w A k E) (hz : Prs w B p Z) (hwf : ∀ i, i < p → WfP (Z i)) (hv : VG n m k E) : AuP n m k c p cp A B w := by
  have hn := hv.n1
  have hm := hv.m1
  have HH := Lib.hid h
  have HV := Lib.hid hv
  have HZ := Lib.hid hz
  have HWF := Lib.hid hwf
  obtain ⟨PL, hPL⟩ : ∃ PL, PL = prl (maxS (nbs E k) m n).L n := ⟨_, rfl⟩
  have HPL := Lib.hid hPL
  have hlen : PL.length ≤ n := by rw [hPL]; exact prl_len _ n
  have hMM : Hid (∀ Z' p', MatP E k Z' p' → p' ≤ PL.length) := fun Z' p' h => by rw [hPL]; exact mat_max hv (maxM hv) (rsI_of hv) h
  have hMx : Hid (MatP E k (pE PL) PL.length) := by show MatP _ _ _ _; rw [hPL]; exact max_mat hv (maxM hv)
  have hSz : Hid (∀ w, Prs w A k E → Calls Try.prog 19 #[.int .i64 n, .int .i64 m, .slice A k c] w fun e w' => e = .returned (.int .i64 (PL.length : Nat)) ∧ Below w.heap.size w w') := fun w h => by rw [hPL]; exact size_any n m k c A E w h hv
  have hHa : Hid (∀ w, Prs w A k E → Calls Try.prog 22 #[.int .i64 n, .int .i64 m, .slice A k c] w (fun e w' => (PL.length = n ∧ HallErr w 7 e w') ∨
      (PL.length ≠ n ∧ ∃ g, e = .returned (.tuple #[.agg #[.int .i64 n, .slice (some ⟨g, 0, none⟩) ((n + 63) / 64) ((n + 63) / 64)], .int .i64 0]) ∧ NewSet w w' g n (setF (tl (mleft n m k E) true n)) ∧ Below w.heap.size w w'))) := fun w h => by rw [hPL]; exact hall_ok n m k c A E w h hv
  have hC1 : Hid (∀ k', k' < (n + 63) / 64 → bw (mleft n m k E) n k' = setF (tl (mleft n m k E) true n) k') := fun k' hk' => (same_words (fun i => by rw [tl_mem]) _ k' hk').symm
  clear h hv hPL hz hwf
  go_enter Try.func5, Try.ntmps5
  go_wp2_with fail
  refine (awake_any _).mono ?_; rintro e w1 ⟨rfl, b1⟩
  go_wp2_with fail
  refine (great_any n m k c A w1).mono ?_; rintro e w2 ⟨⟨v0, rfl⟩, rfl⟩
  cases v0 with
  | true =>
    go_wp2_with fail
    go_ret
    exact ⟨rfl, b1⟩
  | false =>
    by_cases hp : 400 < p
    · have q1 : decide (400 < (p : Int)) = true := decide_eq_true (by omega)
      go_wp2_with fail
      go_ret
      exact ⟨rfl, b1⟩
    · have q1 : decide (400 < (p : Int)) = false := decide_eq_false (by omega)
      have hn60 := hn
      go_wp2_with fail
      clear q1
      refine (hHa.out w1 (HH.out.below b1)).mono ?_; rintro e w2 (⟨hs, he⟩ | ⟨hs, gX, rfl, hX, b2⟩)
      · have HS := Lib.hid hs
        clear hs
        obtain ⟨rfl, b2⟩ := he
        have B2 := below_next b1 b2
        have hS := one_new w2 0 none 0 0
        have B3 := below_next B2 hS.b
        clear b1 b2 B2 hHa hC1
        go_upto_region 6 with fail
        generalize w2.alloc (.cells #[.int .i64 0, .slice none 0 0] 30) = w3 at *
        have HA := Lib.hid (aug_gen n m k c p cp A B E Z w3 (HH.out.below B3) HV.out (HZ.out.below B3) HWF.out (by omega))
        unfold AuG at HA
        go_wp2_with fail
        refine HA.out.mono ?_; rintro e w4 ⟨Al, ll, cl, Y, code, rfl, hP, b4, hF⟩
        have hS4 := hS.next b4
        have B4 := below_next B3 b4
        have HP := Lib.hid hP
        have HF := Lib.hid hF
        clear hS B3 b4 HA hP hF
        go_wp2_with fail
        refine (rValid_yes n m A k c E w4 (HH.out.below B4) HV.out).mono ?_; rintro e w5 ⟨rfl, b5⟩
        have hS5 := hS4.next b5
        have B5 := below_next B4 b5
        have HP5 := Lib.hid (HP.out.below b5)
        clear hS4 B4 b5 HP
        go_wp2_with fail
        refine (hSz.out w5 (HH.out.below B5)).mono ?_; rintro e w6 ⟨rfl, b6⟩
        have hS6 := hS5.next b6
        have B6 := below_next B5 b6
        have HP6 := Lib.hid (HP5.out.below b6)
        clear hS5 B5 b6 HP5
        have qe : (((PL.length : Nat) : Int) == (n : Int)) = true := by rw [HS.out]; simp
        have x0 := hS6.s.c0
        have x1 := hS6.s.c1
        go_wp2_with fail
        refine (refSame_yes 0 none none 0 0 0 (fun _ => 0) w6 (wds_none _) (wds_none _) (by omega)).mono ?_; rintro e w7 ⟨rfl, b7⟩
        have B7 := below_next B6 b7
        have HP7 := Lib.hid (HP6.out.below b7)
        clear hS6 B6 b7 x0 x1 HP6 qe
        have BT := B7
        have HPT := HP7
        clear B7 HP7
        go_upto_region 16 with fail
        obtain ⟨vm, hvm⟩ : ∃ v : Bool, v = true ↔ MatP E k Z p := ⟨@decide _ (Classical.propDecidable _), @decide_eq_true_iff _ (Classical.propDecidable _)⟩
        have HM := Lib.hid (isMat_any n m k c p cp A B E Z vm w7 (HH.out.below BT) HV.out (HZ.out.below BT) (by omega) hvm)
        have HVM := Lib.hid hvm
        clear hvm
        go_wp2_with fail
        refine HM.out.mono ?_; rintro e wu ⟨rfl, bu⟩
        have BU := below_next BT bu
        have HPU := Lib.hid (HPT.out.below bu)
        clear HM BT bu HPT
        rcases HF.out with ⟨rfl, rfl, hno⟩ | ⟨rfl, hMP, hAM⟩ | ⟨rfl, rfl, hMP, hmax⟩
        · obtain rfl : vm = false := by
            cases hc : vm with
            | false => rfl
            | true => exact absurd (HVM.out.1 hc) hno
          clear HVM HF hno
          go_wp2_with fail
          go_ret
          exact ⟨rfl, BU⟩
        · obtain rfl : vm = true := HVM.out.2 hMP
          have hlp := hAM.len
          have hle := hMM.out _ _ hAM.mat
          have qp : (((p : Nat) : Int) == ((PL.length : Nat) : Int)) = false := beq_false_of_ne (by omega)
          have q2 : ((ll : Int) != (p : Int) + 1) = false := by rw [hlp]; simp
          have hwp : IntKind.i64.wrap ((p : Int) + 1) = (p : Int) + 1 := IntWalk.i64_in _ (by omega)
          have HAM := Lib.hid hAM
          have hll : ll ≤ 512 := by omega
          clear HVM HF hMP hAM hMM hMx hSz HPL hlp hle
          go_wp2_with fail
          clear qp q2 hwp
          refine (rising_any ll cl Al Y wu HPU.out (by omega) HAM.out.rise).mono ?_; rintro e wv ⟨rfl, bv⟩
          have BV := below_next BU bv
          have HPV := Lib.hid (HPU.out.below bv)
          clear BU bv HPU
          go_wp2_with fail
          refine (isMat_any n m k c ll cl A Al E Y true wv (HH.out.below BV) HV.out HPV.out (by omega) ⟨fun _ => HAM.out.mat, fun _ => rfl⟩).mono ?_; rintro e w0 ⟨rfl, b0⟩
          have B0 := below_next BV b0
          have HP0 := Lib.hid (HPV.out.below b0)
          clear BV b0 HPV
          have mk1 := make_bools n (by omega)
          have mk2 := make_bools m (by omega)
          go_upto_region 22 with fail
          go_cut [16, 17] from 149 to 152 (fun x y wx => ∃ gA gB, x = .slice (some ⟨gA, 0, none⟩) n n ∧ y = .slice (some ⟨gB, 0, none⟩) m m ∧ wx.heap[gA]? = some (.cells (madeCells #[.bool false] n) 4) ∧ wx.heap[gB]? = some (.cells (madeCells #[.bool false] m) 4) ∧ Below w0.heap.size w0 wx ∧ w0.heap.size ≤ gA ∧ w0.heap.size ≤ gB ∧ gA ≠ gB)
          case first =>
            clear HH HZ HV HAM HP0 B0
            go_region
            all_goals
              go_wp2_with fail
              go_meet
            all_goals
              first
                | exact ⟨w0.heap.size, w0.heap.size + 1, rfl, rfl, (al2 w0 _ _).1, (al2 w0 _ _).2.1, (al2 w0 _ _).2.2.drew, Nat.le_refl _, Nat.le_succ _, by omega⟩
                | exact ⟨w0.heap.size + 1, w0.heap.size, rfl, rfl, (al2 w0 _ _).2.1, (al2 w0 _ _).1, (al2 w0 _ _).2.2.drew, Nat.le_succ _, Nat.le_refl _, by omega⟩
          case rest =>
            obtain ⟨fA, fB, rfl, rfl, eA, eB, bx, lA, lB, hAB⟩ := hcut
            have hRA : wc.rowIs fA 4 n (bvals (sL Y 0)) := row_of_made eA
            have hRB : wc.rowIs fB 4 m (bvals (sR Y 0)) := row_of_made eB
            clear mk1 mk2 eA eB
            go_wp2_with fail
            go_loopw [155] (fun i wr => ∃ K : Nat, K ≤ ll ∧ i = .int .i64 K ∧ wr.rowIs fA 4 n (bvals (sL Y K)) ∧ wr.rowIs fB 4 m (bvals (sR Y K)) ∧ Below w0.heap.size w0 wr) (fun i _ => ll - (intOf i).toNat)
            case atStart => exact ⟨0, Nat.zero_le _, rfl, hRA, hRB, bx⟩
            case round =>
              clear hRA hRB bx
              obtain ⟨K, hK, rfl, hRA, hRB, hB⟩ := hrel
              by_cases hlt : K < ll
              · obtain ⟨b0, off, rfl, hbl, hcz⟩ := (HP0.out.below hB) (by omega)
                obtain ⟨x0, x1⟩ := hcz K hlt
                clear hcz
                obtain ⟨⟨g1, g2⟩, g3, g4⟩ := HAM.out.mat.in_ HV.out hlt
                obtain ⟨a, ha⟩ := Int.eq_ofNat_of_zero_le g1
                obtain ⟨b, hb⟩ := Int.eq_ofNat_of_zero_le g3
                have han : a < n := by omega
                have hbm : b < m := by omega
                have hsl : Hid (sL Y (K + 1) = mark (sL Y K) a) := by show mark (sL Y K) (Y K).1.toNat = _; rw [ha]; rfl
                have hsr : Hid (sR Y (K + 1) = mark (sR Y K) b) := by show mark (sR Y K) (Y K).2.toNat = _; rw [hb]; rfl
                rw [ha] at x0
                rw [hb] at x1
                clear ha hb g1 g2 g3 g4
                have hwrap : IntKind.i64.wrap ((K : Int) + 1) = (K : Int) + 1 := IntWalk.i64_in _ (by omega)
                have bN := below_new wr (.cells #[.int .i64 a, .int .i64 b] 47)
                have eP : (wr.alloc (.cells #[.int .i64 a, .int .i64 b] 47)).heap[wr.heap.size]? = some (.cells #[.int .i64 a, .int .i64 b] 47 (0, 0)) := heap_alloc_new wr _
                have hRA1 := row_below hRA bN
                have hRB1 := row_below hRB bN
                have hB1 := below_next hB bN
                have hlA := hRA.lt
                have hlB := hRB.lt
                clear hRA hRB hB
                go_upto_region 26 with fail
                clear x0 x1 hbl bN
                generalize hpb : wr.heap.size = pb at *
                generalize wr.alloc (.cells #[.int .i64 a, .int .i64 b] 47) = W1 at *
                have u0 : W1.cell? ⟨pb, 0, none⟩ = some (.int .i64 a) := cell_of_row _ _ 0 _ _ _ eP
                have u1 : W1.cell? ⟨pb, 1, none⟩ = some (.int .i64 b) := cell_of_row _ _ 1 _ _ _ eP
                have v1 : (W1.setCell ⟨fA, a, none⟩ (.bool true)).cell? ⟨pb, 1, none⟩ = some (.int .i64 b) := (World.cell?_of_block (w := W1) (Below.heap_setCell _ _ _ _ (by show pb ≠ fA; omega))).trans u1
                have d1 : W1.cell? ⟨fA, a, none⟩ = some (.bool (sL Y K a)) := hRA1.cell han
                have d2 : W1.cell? ⟨fB, b, none⟩ = some (.bool (sR Y K b)) := hRB1.cell hbm
                have f1 := hRA1.frozen a
                have f2 := hRB1.frozen b
                have hRB2 := hRB1.setOther (a := ⟨fA, a, none⟩) (by exact hAB.symm) (.bool true)
                have hRA2 := row_mark (k := a) hRA1
                have d3 : (W1.setCell ⟨fA, a, none⟩ (.bool true)).cell? ⟨fB, b, none⟩ = some (.bool (sR Y K b)) := hRB2.cell hbm
                have f3 := hRB2.frozen b
                have HA3 := Lib.hid (hRA2.setOther (a := ⟨fB, b, none⟩) (by exact hAB) (.bool true))
                have HB3 := Lib.hid (row_mark (k := b) hRB2)
                have B3 := Lib.hid ((hB1.setCell (p := ⟨fA, a, none⟩) (by exact lA) (.bool true)).setCell (p := ⟨fB, b, none⟩) (by exact lB) (.bool true))
                clear hRA1 hRB1 hRA2 hRB2 hB1 eP
                go_region
                all_goals
                  go_wp2_with fail
                  go_roundw
                  case rel => exact ⟨K + 1, hlt, by go_num, by rw [hsl.out]; exact HA3.out.of_block rfl, by rw [hsr.out]; exact HB3.out.of_block rfl, B3.out.drew⟩
                  case measure => simp [intOf]; omega
              · obtain rfl : K = ll := by omega
                go_wp2_with fail
                go_loopw [170] (fun i wr => ∃ J : Nat, J ≤ p ∧ i = .int .i64 J ∧ wr.rowIs fA 4 n (bvals (sL Y K)) ∧ wr.rowIs fB 4 m (bvals (sR Y K)) ∧ Below w0.heap.size w0 wr) (fun i _ => p - (intOf i).toNat)
                case atStart => exact ⟨0, Nat.zero_le _, rfl, hRA, hRB, hB⟩
                case round =>
                  clear hRA hRB hB
                  obtain ⟨J, hJ, rfl, hRA, hRB, hB⟩ := hrel
                  by_cases hlt2 : J < p
                  · obtain ⟨b0, off, rfl, hbl, hcz⟩ := (HZ.out.below (below_next B0 hB)) (by omega)
                    obtain ⟨x0, x1⟩ := hcz J hlt2
                    clear hcz
                    have hl1 := HAM.out.left J hlt2
                    have hr1 := HAM.out.right J hlt2
                    have hsl := sL_in hl1
                    have hsr := sR_in hr1
                    obtain ⟨j1, hj1, ej1⟩ := hl1
                    obtain ⟨j2, hj2, ej2⟩ := hr1
                    obtain ⟨⟨g1, g2⟩, -⟩ := HAM.out.mat.in_ HV.out hj1
                    obtain ⟨-, g3, g4⟩ := HAM.out.mat.in_ HV.out hj2
                    rw [ej1] at g1 g2
                    rw [ej2] at g3 g4
                    obtain ⟨a, ha⟩ := Int.eq_ofNat_of_zero_le g1
                    obtain ⟨b, hb⟩ := Int.eq_ofNat_of_zero_le g3
                    have han : a < n := by omega
                    have hbm : b < m := by omega
                    rw [ha] at x0 hsl
                    rw [hb] at x1 hsr
                    replace hsl : sL Y K a = true := hsl
                    replace hsr : sR Y K b = true := hsr
                    clear ha hb g1 g2 g3 g4 ej1 ej2 hj1 hj2 j1 j2
                    have hwrap : IntKind.i64.wrap ((J : Int) + 1) = (J : Int) + 1 := IntWalk.i64_in _ (by omega)
                    have bN := below_new wr (.cells #[.int .i64 a, .int .i64 b] 47)
                    have eP : (wr.alloc (.cells #[.int .i64 a, .int .i64 b] 47)).heap[wr.heap.size]? = some (.cells #[.int .i64 a, .int .i64 b] 47 (0, 0)) := heap_alloc_new wr _
                    have hRA1 := row_below hRA bN
                    have hRB1 := row_below hRB bN
                    have hB1 := below_next hB bN
                    have d1 : (wr.alloc (.cells #[.int .i64 a, .int .i64 b] 47)).cell? ⟨fA, a, none⟩ = some (.bool (sL Y K a)) := hRA1.cell han
                    have d2 : (wr.alloc (.cells #[.int .i64 a, .int .i64 b] 47)).cell? ⟨fB, b, none⟩ = some (.bool (sR Y K b)) := hRB1.cell hbm
                    rw [hsl] at d1
                    rw [hsr] at d2
                    clear hRA hRB hB hsl hsr
                    go_upto_region 31 with fail
                    clear x0 x1 hbl bN
                    generalize wr.alloc (.cells #[.int .i64 a, .int .i64 b] 47) = W1 at *
                    have u0 : W1.cell? ⟨wr.heap.size, 0, none⟩ = some (.int .i64 a) := cell_of_row _ _ 0 _ _ _ eP
                    have u1 : W1.cell? ⟨wr.heap.size, 1, none⟩ = some (.int .i64 b) := cell_of_row _ _ 1 _ _ _ eP
                    clear eP
                    go_wp2_with fail
                    go_roundw
                    case rel => exact ⟨J + 1, hlt2, by go_num, hRA1, hRB1, hB1⟩
                    case measure => simp [intOf]; omega
                  · obtain rfl : J = p := by omega
                    go_wp2_with fail
                    go_ret
                    exact ⟨rfl, below_next B0 hB⟩
        · obtain rfl : vm = true := HVM.out.2 hMP
          have h1 := hmax _ _ hMx.out
          have h2 := hMM.out _ _ hMP
          have heq : p = PL.length := by omega
          have qp : (((p : Nat) : Int) == ((PL.length : Nat) : Int)) = true := by rw [heq]; simp
          clear HVM HF hMP hmax h1 h2 heq
          go_wp2_with fail
          go_ret
          exact ⟨rfl, BU⟩
      · have B2 := below_next b1 b2
        have hS := one_new w2 n (some ⟨gX, 0, none⟩) ((n + 63) / 64) ((n + 63) / 64)
        have HX := Lib.hid (hX.wds (setF_u64 _ _))
        have B3 := below_next B2 hS.b
        clear b1 b2 B2 hHa hX
        go_upto_region 6 with fail
        generalize w2.alloc (.cells #[.int .i64 (n : Int), .slice (some ⟨gX, 0, none⟩) ((n + 63) / 64) ((n + 63) / 64)] 30) = w3 at *
        have HA := Lib.hid (aug_gen n m k c p cp A B E Z w3 (HH.out.below B3) HV.out (HZ.out.below B3) HWF.out (by omega))
        unfold AuG at HA
        go_wp2_with fail
        refine HA.out.mono ?_; rintro e w4 ⟨Al, ll, cl, Y, code, rfl, hP, b4, hF⟩
        have hS4 := hS.next b4
        have B4 := below_next B3 b4
        have HP := Lib.hid hP
        have HF := Lib.hid hF
        clear hS B3 b4 HA hP hF
        go_wp2_with fail
        refine (rValid_yes n m A k c E w4 (HH.out.below B4) HV.out).mono ?_; rintro e w5 ⟨rfl, b5⟩
        have hS5 := hS4.next b5
        have B5 := below_next B4 b5
        have HP5 := Lib.hid (HP.out.below b5)
        clear hS4 B4 b5 HP
        go_wp2_with fail
        refine (hSz.out w5 (HH.out.below B5)).mono ?_; rintro e w6 ⟨rfl, b6⟩
        have hS6 := hS5.next b6
        have B6 := below_next B5 b6
        have HP6 := Lib.hid (HP5.out.below b6)
        clear hS5 B5 b6 HP5
        have qe : (((PL.length : Nat) : Int) == (n : Int)) = false := beq_false_of_ne (by omega)
        have HR := Lib.hid (reach_any n m k c A E w6 (HH.out.below B6) HV.out)
        unfold RcEnd at HR
        go_wp2_with fail
        refine HR.out.mono ?_; rintro e w7 ⟨gA, gB, rfl, hAB, lA, lB, hra, hrb, b7⟩
        have hS7 := hS6.next b7
        have B7 := below_next B6 b7
        have HP7 := Lib.hid (HP6.out.below b7)
        clear hS6 B6 b7 HP6 hrb lA lB hAB HR qe hs
        have x0 := hS7.s.c0
        have x1 := hS7.s.c1
        have xl := hS7.s.lt
        have HX7 := Lib.hid ((HX.out.below hS7.b).below (Below.refl w7.heap.size w7).drew)
        have HSET := Lib.hid (refSet_any gA n n (mleft n m k E) w7.drew (hra.of_block rfl) (by omega))
        unfold SetNew at HSET
        have HSAME : Hid (∀ (w8 : World) (gQ : Nat), Below w7.drew.heap.size w7.drew w8 → w8.rowIs gQ 64 ((n + 63) / 64) (fun k' => .int .u64 (bw (mleft n m k E) n k' : Nat)) → Calls Try.prog 15 #[.agg #[.int .i64 n, .slice (some ⟨gX, 0, none⟩) ((n + 63) / 64) ((n + 63) / 64)], .agg #[.int .i64 n, .slice (some ⟨gQ, 0, none⟩) ((n + 63) / 64) ((n + 63) / 64)]] w8 fun e w' => e = .returned (.bool true) ∧ Below w8.heap.size w8 w') := fun w8 gQ hb hr =>
          refSame_yes n (some ⟨gX, 0, none⟩) (some ⟨gQ, 0, none⟩) ((n + 63) / 64) ((n + 63) / 64) ((n + 63) / 64) (setF (tl (mleft n m k E) true n)) w8 (HX7.out.below hb) ((row_wds hr (bw_u64 _ _ _)).congr hC1.out) (by omega)
        have HS8 : Hid (∀ w8, Below w7.drew.heap.size w7.drew w8 → One w2 w8 n (some ⟨gX, 0, none⟩) ((n + 63) / 64) ((n + 63) / 64)) := Lib.hid fun w8 hb => hS7.next (below_next (Below.refl w7.heap.size w7).drew hb)
        clear hra hC1 HX
        go_upto_region 14 with fail
        go_region_with (first
          | (go_at_call 25; (with_reducible refine HSET.out.mono ?_); rintro e w8 ⟨gQ, rfl, hlo, hrow, b8⟩; have hS8 := HS8.out _ b8; have z0 := hS8.s.c0; have z1 := hS8.s.c1)
          | (go_at_call 15; (with_reducible refine (HSAME.out _ _ b8 hrow).mono ?_); rintro e w9 ⟨rfl, b9⟩))
        all_goals
          have bD := below_next (Below.refl w7.heap.size w7).drew b8
          have b79 := below_next bD b9
          have BT := below_next B7 b79
          have HPT := Lib.hid (HP7.out.below b79)
          clear hS8 z0 z1 hrow hlo b8 b9 bD b79 B7 HP7 hS7 x0 x1 HS8 HSAME HSET HX7
          obtain ⟨vm, hvm⟩ : ∃ v : Bool, v = true ↔ MatP E k Z p := ⟨@decide _ (Classical.propDecidable _), @decide_eq_true_iff _ (Classical.propDecidable _)⟩
          have HM := Lib.hid (isMat_any n m k c p cp A B E Z vm w9 (HH.out.below BT) HV.out (HZ.out.below BT) (by omega) hvm)
          have HVM := Lib.hid hvm
          clear hvm
          go_wp2_with fail
          refine HM.out.mono ?_; rintro e wu ⟨rfl, bu⟩
          have BU := below_next BT bu
          have HPU := Lib.hid (HPT.out.below bu)
          clear HM BT bu HPT
          rcases HF.out with ⟨rfl, rfl, hno⟩ | ⟨rfl, hMP, hAM⟩ | ⟨rfl, rfl, hMP, hmax⟩
          · obtain rfl : vm = false := by
              cases hc : vm with
              | false => rfl
              | true => exact absurd (HVM.out.1 hc) hno
            clear HVM HF hno
            go_wp2_with fail
            go_ret
            exact ⟨rfl, BU⟩
          · obtain rfl : vm = true := HVM.out.2 hMP
            have hlp := hAM.len
            have hle := hMM.out _ _ hAM.mat
            have qp : (((p : Nat) : Int) == ((PL.length : Nat) : Int)) = false := beq_false_of_ne (by omega)
            have q2 : ((ll : Int) != (p : Int) + 1) = false := by rw [hlp]; simp
            have hwp : IntKind.i64.wrap ((p : Int) + 1) = (p : Int) + 1 := IntWalk.i64_in _ (by omega)
            have HAM := Lib.hid hAM
            have hll : ll ≤ 512 := by omega
            clear HVM HF hMP hAM hMM hMx hSz HPL hlp hle
            go_wp2_with fail
            clear qp q2 hwp
            refine (rising_any ll cl Al Y wu HPU.out (by omega) HAM.out.rise).mono ?_; rintro e wv ⟨rfl, bv⟩
            have BV := below_next BU bv
            have HPV := Lib.hid (HPU.out.below bv)
            clear BU bv HPU
            go_wp2_with fail
            refine (isMat_any n m k c ll cl A Al E Y true wv (HH.out.below BV) HV.out HPV.out (by omega) ⟨fun _ => HAM.out.mat, fun _ => rfl⟩).mono ?_; rintro e w0 ⟨rfl, b0⟩
            have B0 := below_next BV b0
            have HP0 := Lib.hid (HPV.out.below b0)
            clear BV b0 HPV
            have mk1 := make_bools n (by omega)
            have mk2 := make_bools m (by omega)
            go_upto_region 22 with fail
            go_cut [16, 17] from 149 to 152 (fun x y wx => ∃ gA gB, x = .slice (some ⟨gA, 0, none⟩) n n ∧ y = .slice (some ⟨gB, 0, none⟩) m m ∧ wx.heap[gA]? = some (.cells (madeCells #[.bool false] n) 4) ∧ wx.heap[gB]? = some (.cells (madeCells #[.bool false] m) 4) ∧ Below w0.heap.size w0 wx ∧ w0.heap.size ≤ gA ∧ w0.heap.size ≤ gB ∧ gA ≠ gB)
            case first =>
              clear HH HZ HV HAM HP0 B0
              go_region
              all_goals
                go_wp2_with fail
                go_meet
              all_goals
                first
                  | exact ⟨w0.heap.size, w0.heap.size + 1, rfl, rfl, (al2 w0 _ _).1, (al2 w0 _ _).2.1, (al2 w0 _ _).2.2.drew, Nat.le_refl _, Nat.le_succ _, by omega⟩
                  | exact ⟨w0.heap.size + 1, w0.heap.size, rfl, rfl, (al2 w0 _ _).2.1, (al2 w0 _ _).1, (al2 w0 _ _).2.2.drew, Nat.le_succ _, Nat.le_refl _, by omega⟩
            case rest =>
              obtain ⟨fA, fB, rfl, rfl, eA, eB, bx, lA, lB, hAB⟩ := hcut
              have hRA : wc.rowIs fA 4 n (bvals (sL Y 0)) := row_of_made eA
              have hRB : wc.rowIs fB 4 m (bvals (sR Y 0)) := row_of_made eB
              clear mk1 mk2 eA eB
              go_wp2_with fail
              go_loopw [155] (fun i wr => ∃ K : Nat, K ≤ ll ∧ i = .int .i64 K ∧ wr.rowIs fA 4 n (bvals (sL Y K)) ∧ wr.rowIs fB 4 m (bvals (sR Y K)) ∧ Below w0.heap.size w0 wr) (fun i _ => ll - (intOf i).toNat)
              case atStart => exact ⟨0, Nat.zero_le _, rfl, hRA, hRB, bx⟩
              case round =>
                clear hRA hRB bx
                obtain ⟨K, hK, rfl, hRA, hRB, hB⟩ := hrel
                by_cases hlt : K < ll
                · obtain ⟨b0, off, rfl, hbl, hcz⟩ := (HP0.out.below hB) (by omega)
                  obtain ⟨x0, x1⟩ := hcz K hlt
                  clear hcz
                  obtain ⟨⟨g1, g2⟩, g3, g4⟩ := HAM.out.mat.in_ HV.out hlt
                  obtain ⟨a, ha⟩ := Int.eq_ofNat_of_zero_le g1
                  obtain ⟨b, hb⟩ := Int.eq_ofNat_of_zero_le g3
                  have han : a < n := by omega
                  have hbm : b < m := by omega
                  have hsl : Hid (sL Y (K + 1) = mark (sL Y K) a) := by show mark (sL Y K) (Y K).1.toNat = _; rw [ha]; rfl
                  have hsr : Hid (sR Y (K + 1) = mark (sR Y K) b) := by show mark (sR Y K) (Y K).2.toNat = _; rw [hb]; rfl
                  rw [ha] at x0
                  rw [hb] at x1
                  clear ha hb g1 g2 g3 g4
                  have hwrap : IntKind.i64.wrap ((K : Int) + 1) = (K : Int) + 1 := IntWalk.i64_in _ (by omega)
                  have bN := below_new wr (.cells #[.int .i64 a, .int .i64 b] 47)
                  have eP : (wr.alloc (.cells #[.int .i64 a, .int .i64 b] 47)).heap[wr.heap.size]? = some (.cells #[.int .i64 a, .int .i64 b] 47 (0, 0)) := heap_alloc_new wr _
                  have hRA1 := row_below hRA bN
                  have hRB1 := row_below hRB bN
                  have hB1 := below_next hB bN
                  have hlA := hRA.lt
                  have hlB := hRB.lt
                  clear hRA hRB hB
                  go_upto_region 26 with fail
                  clear x0 x1 hbl bN
                  generalize hpb : wr.heap.size = pb at *
                  generalize wr.alloc (.cells #[.int .i64 a, .int .i64 b] 47) = W1 at *
                  have u0 : W1.cell? ⟨pb, 0, none⟩ = some (.int .i64 a) := cell_of_row _ _ 0 _ _ _ eP
                  have u1 : W1.cell? ⟨pb, 1, none⟩ = some (.int .i64 b) := cell_of_row _ _ 1 _ _ _ eP
                  have v1 : (W1.setCell ⟨fA, a, none⟩ (.bool true)).cell? ⟨pb, 1, none⟩ = some (.int .i64 b) := (World.cell?_of_block (w := W1) (Below.heap_setCell _ _ _ _ (by show pb ≠ fA; omega))).trans u1
                  have d1 : W1.cell? ⟨fA, a, none⟩ = some (.bool (sL Y K a)) := hRA1.cell han
                  have d2 : W1.cell? ⟨fB, b, none⟩ = some (.bool (sR Y K b)) := hRB1.cell hbm
                  have f1 := hRA1.frozen a
                  have f2 := hRB1.frozen b
                  have hRB2 := hRB1.setOther (a := ⟨fA, a, none⟩) (by exact hAB.symm) (.bool true)
                  have hRA2 := row_mark (k := a) hRA1
                  have d3 : (W1.setCell ⟨fA, a, none⟩ (.bool true)).cell? ⟨fB, b, none⟩ = some (.bool (sR Y K b)) := hRB2.cell hbm
                  have f3 := hRB2.frozen b
                  have HA3 := Lib.hid (hRA2.setOther (a := ⟨fB, b, none⟩) (by exact hAB) (.bool true))
                  have HB3 := Lib.hid (row_mark (k := b) hRB2)
                  have B3 := Lib.hid ((hB1.setCell (p := ⟨fA, a, none⟩) (by exact lA) (.bool true)).setCell (p := ⟨fB, b, none⟩) (by exact lB) (.bool true))
                  clear hRA1 hRB1 hRA2 hRB2 hB1 eP
                  go_region
                  all_goals
                    go_wp2_with fail
                    go_roundw
                    case rel => exact ⟨K + 1, hlt, by go_num, by rw [hsl.out]; exact HA3.out.of_block rfl, by rw [hsr.out]; exact HB3.out.of_block rfl, B3.out.drew⟩
                    case measure => simp [intOf]; omega
                · obtain rfl : K = ll := by omega
                  go_wp2_with fail
                  go_loopw [170] (fun i wr => ∃ J : Nat, J ≤ p ∧ i = .int .i64 J ∧ wr.rowIs fA 4 n (bvals (sL Y K)) ∧ wr.rowIs fB 4 m (bvals (sR Y K)) ∧ Below w0.heap.size w0 wr) (fun i _ => p - (intOf i).toNat)
                  case atStart => exact ⟨0, Nat.zero_le _, rfl, hRA, hRB, hB⟩
                  case round =>
                    clear hRA hRB hB
                    obtain ⟨J, hJ, rfl, hRA, hRB, hB⟩ := hrel
                    by_cases hlt2 : J < p
                    · obtain ⟨b0, off, rfl, hbl, hcz⟩ := (HZ.out.below (below_next B0 hB)) (by omega)
                      obtain ⟨x0, x1⟩ := hcz J hlt2
                      clear hcz
                      have hl1 := HAM.out.left J hlt2
                      have hr1 := HAM.out.right J hlt2
                      have hsl := sL_in hl1
                      have hsr := sR_in hr1
                      obtain ⟨j1, hj1, ej1⟩ := hl1
                      obtain ⟨j2, hj2, ej2⟩ := hr1
                      obtain ⟨⟨g1, g2⟩, -⟩ := HAM.out.mat.in_ HV.out hj1
                      obtain ⟨-, g3, g4⟩ := HAM.out.mat.in_ HV.out hj2
                      rw [ej1] at g1 g2
                      rw [ej2] at g3 g4
                      obtain ⟨a, ha⟩ := Int.eq_ofNat_of_zero_le g1
                      obtain ⟨b, hb⟩ := Int.eq_ofNat_of_zero_le g3
                      have han : a < n := by omega
                      have hbm : b < m := by omega
                      rw [ha] at x0 hsl
                      rw [hb] at x1 hsr
                      replace hsl : sL Y K a = true := hsl
                      replace hsr : sR Y K b = true := hsr
                      clear ha hb g1 g2 g3 g4 ej1 ej2 hj1 hj2 j1 j2
                      have hwrap : IntKind.i64.wrap ((J : Int) + 1) = (J : Int) + 1 := IntWalk.i64_in _ (by omega)
                      have bN := below_new wr (.cells #[.int .i64 a, .int .i64 b] 47)
                      have eP : (wr.alloc (.cells #[.int .i64 a, .int .i64 b] 47)).heap[wr.heap.size]? = some (.cells #[.int .i64 a, .int .i64 b] 47 (0, 0)) := heap_alloc_new wr _
                      have hRA1 := row_below hRA bN
                      have hRB1 := row_below hRB bN
                      have hB1 := below_next hB bN
                      have d1 : (wr.alloc (.cells #[.int .i64 a, .int .i64 b] 47)).cell? ⟨fA, a, none⟩ = some (.bool (sL Y K a)) := hRA1.cell han
                      have d2 : (wr.alloc (.cells #[.int .i64 a, .int .i64 b] 47)).cell? ⟨fB, b, none⟩ = some (.bool (sR Y K b)) := hRB1.cell hbm
                      rw [hsl] at d1
                      rw [hsr] at d2
                      clear hRA hRB hB hsl hsr
                      go_upto_region 31 with fail
                      clear x0 x1 hbl bN
                      generalize wr.alloc (.cells #[.int .i64 a, .int .i64 b] 47) = W1 at *
                      have u0 : W1.cell? ⟨wr.heap.size, 0, none⟩ = some (.int .i64 a) := cell_of_row _ _ 0 _ _ _ eP
                      have u1 : W1.cell? ⟨wr.heap.size, 1, none⟩ = some (.int .i64 b) := cell_of_row _ _ 1 _ _ _ eP
                      clear eP
                      go_wp2_with fail
                      go_roundw
                      case rel => exact ⟨J + 1, hlt2, by go_num, hRA1, hRB1, hB1⟩
                      case measure => simp [intOf]; omega
                    · obtain rfl : J = p := by omega
                      go_wp2_with fail
                      go_ret
                      exact ⟨rfl, below_next B0 hB⟩
          · obtain rfl : vm = true := HVM.out.2 hMP
            have h1 := hmax _ _ hMx.out
            have h2 := hMM.out _ _ hMP
            have heq : p = PL.length := by omega
            have qp : (((p : Nat) : Int) == ((PL.length : Nat) : Int)) = true := by rw [heq]; simp
            clear HVM HF hMP hmax h1 h2 heq
            go_wp2_with fail
            go_ret
            exact ⟨rfl, BU⟩
theorem au_law (N M : Int) (k c p cp : Nat) (A B : Option Addr) (E Z : Nat → Int × Int) (w : World) (h : Prs w A k E) (hz : Prs w B p Z) (hwf : ∀ i, i < p → WfP (Z i)) : AuP N M k c p cp A B w := by
  by_cases hv : VG N M k E
  · obtain ⟨n, rfl⟩ := Int.eq_ofNat_of_zero_le hv.n0
    obtain ⟨m, rfl⟩ := Int.eq_ofNat_of_zero_le hv.m0
    exact au_yes n m k c p cp A B E Z w h hz hwf hv
  · exact au_no N M k c p cp A B E w h hv
end Go.Proofs.Ytmafnncpdccfdaa
