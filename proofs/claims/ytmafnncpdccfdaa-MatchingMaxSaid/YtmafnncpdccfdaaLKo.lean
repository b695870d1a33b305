/- The law MatchingKoenig: the walk. -/
import Derived.Test.YtmafnncpdccfdaaKMa
import Derived.Test.YtmafnncpdccfdaaLCk
namespace Go.Proofs.Ytmafnncpdccfdaa
open Go.RowKit Go.Sort
theorem NewSet.wds {w0 w : World} {g n : Nat} {f : Nat → Nat} (h : NewSet w0 w g n f) (hU : U64 f ((n + 63) / 64)) : Wds w (some ⟨g, 0, none⟩) ((n + 63) / 64) f :=
  ⟨hU, fun _ => ⟨g, 0, rfl, h.2.lt, fun k hk => by have := h.2.cell hk; simpa using this⟩⟩
/- what Max and Cover return, and what it is -/
structure KoF (n m k c : Nat) (A : Option Addr) (E : Nat → Int × Int) (PL : List (Int × Int)) (F G : Nat → Nat) : Prop where
  mx : ∀ w, Prs w A k E → Calls Try.prog 11 #[.int .i64 n, .int .i64 m, .slice A k c] w (MaxOk w PL)
  cv : ∀ w, Prs w A k E → Calls Try.prog 12 #[.int .i64 n, .int .i64 m, .slice A k c] w (CovOk w n m F G)
  uF : U64 F ((n + 63) / 64)
  uG : U64 G ((m + 63) / 64)
  ck : CkP n m k PL.length E (pE PL) n m ((n + 63) / 64) ((m + 63) / 64) F G
  wf : ∀ i, i < PL.length → WfP (pE PL i)
  len : PL.length ≤ n
  mm : ∀ Z p, MatP E k Z p → p ≤ PL.length
  wk : ∀ f g, Cov E f g k → PL.length ≤ bcnt f n + bcnt g m
  le : ∀ f g, Cov E f g k → bcnt f n + bcnt g m = PL.length → ∀ b, b < m → bt G b = true → bt g b = true
theorem ko_facts (n m k c : Nat) (A : Option Addr) (E : Nat → Int × Int) (hv : VG n m k E) : ∃ PL F G, KoF n m k c A E PL F G :=
  ⟨prl (maxS (nbs E k) m n).L n, setF (tl (mleft n m k E) false n), setF (tl (mseen n m k E) true m),
    { mx := fun w h => max_ok n m k c A E w h hv
      cv := fun w h => cover_ok n m k c A E w h hv
      uF := setF_u64 _ _
      uG := setF_u64 _ _
      ck := max_ck hv (maxM hv) (rsI_of hv)
      wf := fun i hi => by
        obtain ⟨e, he, h⟩ := (max_mat hv (maxM hv)).1 i hi
        rw [← h]; exact hv.wf he
      len := prl_len _ n
      mm := fun Z p h => mat_max hv (maxM hv) (rsI_of hv) h
      wk := fun f g h => weak_dual hv (max_mat hv (maxM hv)) h
      le := fun f g h he b hb hG => cov_least hv (maxM hv) (rsI_of hv) h he b (tl_mem.1 ((setF_bt _ _).1 hG)).2 }⟩
/- the world of the law: its two boxes, and Cover's -/
structure Kon (w wr : World) (N1 N2 : Int) (X Y : Option Addr) (la ca lb cb q n m : Nat) (U V : Option Addr) (lu lv : Nat) : Prop where
  t : Two w wr N1 N2 X Y la ca lb cb
  x : SetAt wr q n U lu lu
  y : SetAt wr (q + 1) m V lv lv
section
variable {w wr w2 : World} {N1 N2 : Int} {X Y U V : Option Addr} {la ca lb cb q n m lu lv : Nat}
theorem Kon.next (h : Kon w wr N1 N2 X Y la ca lb cb q n m U V lu lv) (k : Below wr.heap.size wr w2) : Kon w w2 N1 N2 X Y la ca lb cb q n m U V lu lv := ⟨h.t.next k, h.x.below k, h.y.below k⟩
end
def KoP (N M : Int) (k c p cp : Nat) (A B : Option Addr) (N1 N2 : Int) (la ca lb cb : Nat) (X Y : Option Addr) (w : World) : Prop :=
  Calls Try.prog 6 #[.int .i64 N, .int .i64 M, .slice A k c, .slice B p cp, .agg #[.int .i64 N1, .slice X la ca], .agg #[.int .i64 N2, .slice Y lb cb]] w fun e w' => e = .returned (.bool true) ∧ Below w.heap.size w w'
section
variable (N M : Int) (k c p cp : Nat) (A B : Option Addr) (E Z : Nat → Int × Int) (N1 N2 : Int) (la ca lb cb : Nat) (X Y : Option Addr) (f g : Nat → Nat) (w : World)
set_option maxRecDepth 100000 in
set_option maxHeartbeats 4000000 in
theorem ko_no (h : Prs w A k E) (hv : ¬ VG N M k E) : KoP N M k c p cp A B N1 N2 la ca lb cb X Y w := by
  have HH := Lib.hid h
  have HV := Lib.hid hv
  clear h hv
  have hT := two_new w N1 N2 X Y la ca lb cb
  go_enter Try.func6, Try.ntmps6
  go_upto_region 1 with fail
  generalize (w.alloc (.cells #[.int .i64 N1, .slice X la ca] 30)).alloc (.cells #[.int .i64 N2, .slice Y lb cb] 30) = W at *
  go_wp2_with fail
  refine (awake_any _).mono ?_; rintro e w1 ⟨rfl, b1⟩
  have hT1 := hT.next b1
  clear hT b1
  have c0 := hT1.s.c0
  have c1 := hT1.s.c1
  have d0 := hT1.t.c0
  have d1 := hT1.t.c1
  go_wp2_with fail
  refine (great_any N M k c A w1).mono ?_; rintro e w2 ⟨⟨v0, rfl⟩, rfl⟩
  cases v0 with
  | true =>
    go_wp2_with fail
    go_ret
    exact ⟨rfl, hT1.b⟩
  | false =>
    by_cases hp : 400 < p
    · have q1 : decide (400 < (p : Int)) = true := decide_eq_true (by omega)
      go_wp2_with fail
      go_ret
      exact ⟨rfl, hT1.b⟩
    · have q1 : decide (400 < (p : Int)) = false := decide_eq_false (by omega)
      by_cases hla : 20 < la
      · have q2 : decide (20 < (la : Int)) = true := decide_eq_true (by omega)
        go_wp2_with fail
        go_ret
        exact ⟨rfl, hT1.b⟩
      · have q2 : decide (20 < (la : Int)) = false := decide_eq_false (by omega)
        by_cases hlb : 20 < lb
        · have q3 : decide (20 < (lb : Int)) = true := decide_eq_true (by omega)
          go_wp2_with fail
          go_ret
          exact ⟨rfl, hT1.b⟩
        · have q3 : decide (20 < (lb : Int)) = false := decide_eq_false (by omega)
          have B1 := hT1.b
          go_wp2_with fail
          clear c0 c1 d0 d1 hT1
          refine (max_err N M A k c E w1 (HH.out.below B1) HV.out).mono ?_; rintro e w2 ⟨rfl, b2⟩
          have B2 := below_next B1 b2
          go_wp2_with fail
          refine (cover_err N M A k c E w2 (HH.out.below B2) HV.out).mono ?_; rintro e w3 ⟨rfl, b3⟩
          have B3 := below_next B2 b3
          go_upto_region 7 with fail
          have B4 := below_next B3 (two_new w3 0 0 none none 0 0 0 0).b
          generalize (w3.alloc (.cells #[.int .i64 0, .slice none 0 0] 30)).alloc (.cells #[.int .i64 0, .slice none 0 0] 30) = w4 at *
          clear b2 b3 B1 B2 B3
          go_wp2_with fail
          refine (rValid_no N M A k c E w4 (HH.out.below B4) HV.out).mono ?_; rintro e w5 ⟨rfl, b5⟩
          have B5 := below_next B4 b5
          go_wp2_with fail
          go_ret
          exact ⟨rfl, B5⟩
set_option maxRecDepth 100000 in
set_option maxHeartbeats 4000000 in
theorem ko_yes (n m : Nat) (h : Prs w A k E) (hz : Prs w B p Z) (hwf : ∀ i, i < p → WfP (Z i)) (hX : Wds w X la f) (hY : Wds w Y lb g) (hv : VG n m k E) : KoP n m k c p cp A B N1 N2 la ca lb cb X Y w := by
  have hn := hv.n1
  have hm := hv.m1
  obtain ⟨PL, F, G, hK⟩ := ko_facts n m k c A E hv
  have HK := Lib.hid hK
  have hlen := hK.len
  have HH := Lib.hid h
  have HV := Lib.hid hv
  have HZ := Lib.hid hz
  have HWF := Lib.hid hwf
  have HX := Lib.hid hX
  have HY := Lib.hid hY
  clear h hz hwf hX hY hv hK
  have hT := two_new w N1 N2 X Y la ca lb cb
  go_enter Try.func6, Try.ntmps6
  go_upto_region 1 with fail
  generalize (w.alloc (.cells #[.int .i64 N1, .slice X la ca] 30)).alloc (.cells #[.int .i64 N2, .slice Y lb cb] 30) = W at *
  go_wp2_with fail
  refine (awake_any _).mono ?_; rintro e w1 ⟨rfl, b1⟩
  have hT1 := hT.next b1
  clear hT b1
  have c0 := hT1.s.c0
  have c1 := hT1.s.c1
  have d0 := hT1.t.c0
  have d1 := hT1.t.c1
  go_wp2_with fail
  refine (great_any n m k c A w1).mono ?_; rintro e w2 ⟨⟨v0, rfl⟩, rfl⟩
  cases v0 with
  | true =>
    go_wp2_with fail
    go_ret
    exact ⟨rfl, hT1.b⟩
  | false =>
    by_cases hp : 400 < p
    · have q1 : decide (400 < (p : Int)) = true := decide_eq_true (by omega)
      go_wp2_with fail
      go_ret
      exact ⟨rfl, hT1.b⟩
    · have q1 : decide (400 < (p : Int)) = false := decide_eq_false (by omega)
      by_cases hla : 20 < la
      · have q2 : decide (20 < (la : Int)) = true := decide_eq_true (by omega)
        go_wp2_with fail
        go_ret
        exact ⟨rfl, hT1.b⟩
      · have q2 : decide (20 < (la : Int)) = false := decide_eq_false (by omega)
        by_cases hlb : 20 < lb
        · have q3 : decide (20 < (lb : Int)) = true := decide_eq_true (by omega)
          go_wp2_with fail
          go_ret
          exact ⟨rfl, hT1.b⟩
        · have q3 : decide (20 < (lb : Int)) = false := decide_eq_false (by omega)
          have B1 := hT1.b
          go_wp2_with fail
          clear c0 c1 d0 d1
          refine (HK.out.mx w1 (HH.out.below B1)).mono ?_; rintro e w2 ⟨v, rfl, hown, b2⟩
          obtain ⟨Ap, cq, rfl, hP⟩ := own_prs hown
          have hT2 := hT1.next b2
          clear hown hT1 B1 q1 q2 q3
          go_wp2_with fail
          refine (HK.out.cv w2 (HH.out.below hT2.b)).mono ?_; rintro e w3 ⟨gX, gY, rfl, hU, hV, b3⟩
          have hT3 := hT2.next b3
          have HP := Lib.hid (hP.below b3)
          have HU := Lib.hid (hU.wds HK.out.uF)
          have HV2 := Lib.hid (hV.wds HK.out.uG)
          clear hT2 hP hU hV b3
          go_upto_region 7 with fail
          have hS := two_new w3 n m (some ⟨gX, 0, none⟩) (some ⟨gY, 0, none⟩) ((n + 63) / 64) ((n + 63) / 64) ((m + 63) / 64) ((m + 63) / 64)
          have hT4 := hT3.next hS.b
          clear hT3
          generalize (w3.alloc (.cells #[.int .i64 (n : Int), .slice (some ⟨gX, 0, none⟩) ((n + 63) / 64) ((n + 63) / 64)] 30)).alloc (.cells #[.int .i64 (m : Int), .slice (some ⟨gY, 0, none⟩) ((m + 63) / 64) ((m + 63) / 64)] 30) = w4 at *
          go_wp2_with fail
          refine (rValid_yes n m A k c E w4 (HH.out.below hT4.b) HV.out).mono ?_; rintro e w5 ⟨rfl, b5⟩
          have hS5 := hS.next b5
          have hT5 := hT4.next b5
          clear hS hT4 b5
          have x0 := hS5.s.c0
          have x1 := hS5.s.c1
          have y0 := hS5.t.c0
          have y1 := hS5.t.c1
          go_wp2_with fail
          refine (rck_any n m k c PL.length cq A Ap E (pE PL) n m ((n + 63) / 64) ((n + 63) / 64) ((m + 63) / 64) ((m + 63) / 64) (some ⟨gX, 0, none⟩) (some ⟨gY, 0, none⟩) F G true w5 (HH.out.below hT5.b) (HP.out.below hS5.b) (by omega) (HU.out.below hS5.b) (HV2.out.below hS5.b) ⟨fun _ => HK.out.ck, fun _ => rfl⟩).mono ?_; rintro e w6 ⟨rfl, b6⟩
          have hS6 := hS5.next b6
          have hT6 := hT5.next b6
          clear hS5 hT5 b6 x0 x1 y0 y1
          have x0 := hS6.s.c0
          have x1 := hS6.s.c1
          have y0 := hS6.t.c0
          have y1 := hS6.t.c1
          go_wp2_with fail
          refine (ck_any n m k c PL.length cq A Ap E (pE PL) n m ((n + 63) / 64) ((n + 63) / 64) ((m + 63) / 64) ((m + 63) / 64) (some ⟨gX, 0, none⟩) (some ⟨gY, 0, none⟩) F G true w6 (HH.out.below hT6.b) (HP.out.below hS6.b) HK.out.wf (by omega) (HU.out.below hS6.b) (HV2.out.below hS6.b) ⟨fun _ => HK.out.ck, fun _ => rfl⟩).mono ?_; rintro e w7 ⟨rfl, b7⟩
          have hS7 := hS6.next b7
          have hT7 := hT6.next b7
          clear hS6 hT6 b7 x0 x1 y0 y1 HP HU
          obtain ⟨vm, hvm⟩ : ∃ v : Bool, v = true ↔ MatP E k Z p := ⟨@decide _ (Classical.propDecidable _), @decide_eq_true_iff _ (Classical.propDecidable _)⟩
          have HM := Lib.hid (isMat_any n m k c p cp A B E Z vm w7 (HH.out.below hT7.b) HV.out (HZ.out.below hT7.b) (by omega) hvm)
          have qm : Hid (vm = true → p ≤ PL.length) := fun h => HK.out.mm Z p (hvm.1 h)
          clear hvm
          go_wp2_with fail
          refine HM.out.mono ?_; rintro e w8 ⟨rfl, b8⟩
          have hS8 := hS7.next b8
          have hT8 := hT7.next b8
          clear hS7 hT7 b8 HM HZ
          have c0 := hT8.s.c0
          have c1 := hT8.s.c1
          have d0 := hT8.t.c0
          have d1 := hT8.t.c1
          obtain ⟨dq, hdq⟩ : ∃ d, decide (PL.length < p) = d := ⟨_, rfl⟩
          have hq : Hid (vm = true → dq = false) := fun h => by
            rw [← hdq]; have := qm.out h; exact decide_eq_false (by omega)
          rcases vm with _ | _
          all_goals
            first
              | (have h0 : dq = false := by have := hq.out; simpa using this
                 subst h0)
              | skip
            clear hq qm
            go_wp2_with fail
            clear hdq
            by_cases hl : N1 = n ∧ Vld N1 la f
            · obtain ⟨rfl, hl⟩ := hl
              obtain rfl : la = (n + 63) / 64 := by have := hl.2.2.1; simpa using this
              refine (rIsSet_yes n X _ ca f w8 (HX.out.below hT8.b) hl).mono ?_; rintro e w9 ⟨rfl, b9⟩
              have hS9 := hS8.next b9
              have hT9 := hT8.next b9
              clear hS8 hT8 b9 c0 c1 d0 d1
              have c0 := hT9.s.c0
              have c1 := hT9.s.c1
              have d0 := hT9.t.c0
              have d1 := hT9.t.c1
              go_wp2_with fail
              by_cases hr : N2 = m ∧ Vld N2 lb g
              · obtain ⟨rfl, hr⟩ := hr
                obtain rfl : lb = (m + 63) / 64 := by have := hr.2.2.1; simpa using this
                refine (rIsSet_yes m Y _ cb g w9 (HY.out.below hT9.b) hr).mono ?_; rintro e w10 ⟨rfl, b10⟩
                have hS10 := hS9.next b10
                have hT10 := hT9.next b10
                clear hS9 hT9 b10 c0 c1 d0 d1
                have c0 := hT10.s.c0
                have c1 := hT10.s.c1
                have d0 := hT10.t.c0
                have d1 := hT10.t.c1
                obtain ⟨vc, hvc⟩ : ∃ v : Bool, v = true ↔ Cov E f g k := ⟨@decide _ (Classical.propDecidable _), @decide_eq_true_iff _ (Classical.propDecidable _)⟩
                have HC := Lib.hid (isCov_any n m k c ca cb A X Y E f g vc w10 (HH.out.below hT10.b) HV.out (HX.out.below hT10.b) (HY.out.below hT10.b) hvc)
                have HVC := Lib.hid hvc
                clear hvc
                go_wp2_with fail
                refine HC.out.mono ?_; rintro e w11 ⟨rfl, b11⟩
                have hS11 := hS10.next b11
                have hT11 := hT10.next b11
                clear hS10 hT10 b11 c0 c1 d0 d1 HC
                cases vc with
                | false =>
                  go_wp2_with fail
                  go_ret
                  exact ⟨rfl, hT11.b⟩
                | true =>
                  have hcov : Cov E f g k := HVC.out.1 rfl
                  have hwk := HK.out.wk f g hcov
                  have HLE := Lib.hid (HK.out.le f g hcov)
                  have hbf := bcnt_le f n
                  have hbg := bcnt_le g m
                  have hw : IntKind.i64.wrap (((bcnt f n : Nat) : Int) + ((bcnt g m : Nat) : Int)) = ((bcnt f n : Nat) : Int) + ((bcnt g m : Nat) : Int) := IntWalk.i64_in _ (by omega)
                  have k0 := cell_regrown hT11.s.c0
                  have k1 := cell_regrown hT11.s.c1
                  have k2 := cell_regrown hT11.t.c0
                  have k3 := cell_regrown hT11.t.c1
                  have B1 := hT11.b
                  have CA := Lib.hid (fun d os => Calls.regrown_of (rCount_any n X ((n + 63) / 64) ca f (grow (redrawn w11 d) os) ((HX.out.below B1).below (below_regrown w11 d os)) (by omega) rfl))
                  have CB := Lib.hid (fun d os => Calls.regrown_of (rCount_any m Y ((m + 63) / 64) cb g (grow (redrawn w11 d) os) ((HY.out.below B1).below (below_regrown w11 d os)) (by omega) rfl))
                  clear HVC hcov
                  generalize bcnt f n = cf at *
                  generalize bcnt g m = cg at *
                  go_upto_region 15 with fail
                  refine wp_region_quiet_below (by kernel_rfl) (by kernel_rfl) ?_
                  repeat (first | go_big_quiet_step (first | with_reducible exact CA.out _ _ | with_reducible exact CB.out _ _) | quiet_step (first | with_reducible exact CA.out _ _ | with_reducible exact CB.out _ _))
                  refine wpQuiet_nil ?_
                  intro _ hw'
                  obtain ⟨⟨dq, osq⟩, hw''⟩ := hw'
                  subst hw''
                  clear k0 k1 k2 k3 CA CB
                  have hT12 := hT11.next (below_regrown w11 dq osq)
                  have hS12 := hS11.next (below_regrown w11 dq osq)
                  clear hT11 hS11 B1
                  generalize grow (redrawn w11 dq) osq = w12 at *
                  have e1 : decide (((cf : Nat) : Int) + ((cg : Nat) : Int) < (PL.length : Int)) = false := decide_eq_false (by omega)
                  have e1n : decide (cf + cg < PL.length) = false := decide_eq_false (by omega)
                  by_cases hgt : PL.length < cf + cg
                  · have e2 : decide ((PL.length : Int) < ((cf : Nat) : Int) + ((cg : Nat) : Int)) = true := decide_eq_true (by omega)
                    have e2n : decide (PL.length < cf + cg) = true := decide_eq_true (by omega)
                    go_wp2_with fail
                    go_ret
                    exact ⟨rfl, hT12.b⟩
                  · have e2 : decide ((PL.length : Int) < ((cf : Nat) : Int) + ((cg : Nat) : Int)) = false := decide_eq_false (by omega)
                    have e2n : decide (PL.length < cf + cg) = false := decide_eq_false (by omega)
                    have HL2 := Lib.hid (HLE.out (by omega))
                    go_wp2_with fail
                    clear e1 e2 e1n e2n hgt HLE hw
                    go_loopw [139] (fun i wr => ∃ K : Nat, K ≤ m ∧ i = .int .i64 K ∧ Two w wr n m X Y ((n + 63) / 64) ca ((m + 63) / 64) cb ∧ Two w3 wr n m (some ⟨gX, 0, none⟩) (some ⟨gY, 0, none⟩) ((n + 63) / 64) ((n + 63) / 64) ((m + 63) / 64) ((m + 63) / 64)) (fun i _ => m - (intOf i).toNat)
                    case atStart => exact ⟨0, Nat.zero_le _, rfl, hT12, hS12⟩
                    case round =>
                      clear hT12 hS12
                      obtain ⟨K, hK, rfl, hT, hS⟩ := hrel
                      by_cases hlt : K < m
                      · have hwrap : IntKind.i64.wrap ((K : Int) + 1) = (K : Int) + 1 := IntWalk.i64_in _ (by omega)
                        obtain ⟨vb, hvb⟩ : ∃ v, bt G K = v := ⟨_, rfl⟩
                        have HA := Lib.hid (rHas_in m K (some ⟨gY, 0, none⟩) ((m + 63) / 64) ((m + 63) / 64) G vb wr (HV2.out.below hS.b) hlt (by omega) rfl hvb)
                        have y0 := hS.t.c0
                        have y1 := hS.t.c1
                        have hyes : Hid (vb = true → bt g K = true) := fun h => HL2.out K hlt (by rw [hvb, h])
                        clear hvb
                        go_wp2_with fail
                        refine HA.out.mono ?_; rintro e w13 ⟨rfl, b13⟩
                        have hT13 := hT.next b13
                        have hS13 := hS.next b13
                        clear hT hS y0 y1 HA b13
                        cases vb with
                        | false =>
                          clear hyes
                          go_wp2_with fail
                          go_roundw
                          case rel => exact ⟨K + 1, hlt, by go_num, hT13, hS13⟩
                          case measure => simp [intOf]; omega
                        | true =>
                          have d0 := hT13.t.c0
                          have d1 := hT13.t.c1
                          have HB := Lib.hid (rHas_in m K Y ((m + 63) / 64) cb g true w13 (HY.out.below hT13.b) hlt (by omega) rfl (by have := hyes.out; simpa using this))
                          clear hyes
                          go_wp2_with fail
                          refine HB.out.mono ?_; rintro e w14 ⟨rfl, b14⟩
                          have hT14 := hT13.next b14
                          have hS14 := hS13.next b14
                          clear hT13 hS13 d0 d1 HB b14
                          go_wp2_with fail
                          go_roundw
                          case rel => exact ⟨K + 1, hlt, by go_num, hT14, hS14⟩
                          case measure => simp [intOf]; omega
                      · obtain rfl : K = m := by omega
                        go_wp2_with fail
                        go_ret
                        exact ⟨rfl, hT.b⟩
              · refine (rIsSet_no N2 m Y lb cb g w9 (HY.out.below hT9.b) hr).mono ?_; rintro e w10 ⟨rfl, b10⟩
                have B10 := below_next hT9.b b10
                clear c0 c1 d0 d1
                go_wp2_with fail
                go_ret
                exact ⟨rfl, B10⟩
            · refine (rIsSet_no N1 n X la ca f w8 (HX.out.below hT8.b) hl).mono ?_; rintro e w9 ⟨rfl, b9⟩
              have B9 := below_next hT8.b b9
              clear c0 c1 d0 d1
              go_wp2_with fail
              go_ret
              exact ⟨rfl, B9⟩
theorem ko_law (h : Prs w A k E) (hz : Prs w B p Z) (hwf : ∀ i, i < p → WfP (Z i)) (hX : Wds w X la f) (hY : Wds w Y lb g) : KoP N M k c p cp A B N1 N2 la ca lb cb X Y w := by
  by_cases hv : VG N M k E
  · obtain ⟨n, rfl⟩ := Int.eq_ofNat_of_zero_le hv.n0
    obtain ⟨m, rfl⟩ := Int.eq_ofNat_of_zero_le hv.m0
    exact ko_yes k c p cp A B E Z N1 N2 la ca lb cb X Y f g w n m h hz hwf hX hY hv
  · exact ko_no N M k c p cp A B E N1 N2 la ca lb cb X Y w h hv
end
end Go.Proofs.Ytmafnncpdccfdaa
