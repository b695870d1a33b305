/- FlowDuality: the law's own text, walked: it returns true for all networks and ends. -/
import Derived.Test.YtjdceafkcakbjaaFBe
import Derived.Test.YtjdceafkcakbjaaFRef
import Derived.Test.YtjdceafkcakbjaaFChk
namespace Go.Proofs.Ytjdceafkcakbjaa
open Go.RowKit
def DuP (N s t : Int) (m c : Nat) (A : Option Addr) (w : World) : Prop := Calls Try.prog 8 #[.agg #[.int .i64 N, .slice A m c], .int .i64 s, .int .i64 t] w fun e w' => e = .returned (.bool true) ∧ Below w.heap.size w w'
theorem du_arg (N s t : Int) (m c : Nat) (A : Option Addr) (E : Nat → EdgeD) (w : World) (h : Edges w A m E) (hv : ¬ VNet N m E) : DuP N s t m c A w := by
  have V : Hid (∀ u, Below w.heap.size w u → Calls Try.prog 13 #[.agg #[.int .i64 N, .slice A m c]] u fun e w' => e = .returned (.bool false) ∧ Below u.heap.size u w') := fun u hu => refValid_n N A m c E u (h.below hu) hv
  clear h hv
  have n0 := netAt_new w N A m c
  have b0 := below_new w (.cells #[.int .i64 N, .slice A m c] 24)
  have c0 := n0.c0
  have c1 := n0.c1
  go_enter Try.func8, Try.ntmps8
  go_wp2_with fail
  refine (awake_any _).mono ?_; rintro e w1 ⟨rfl, b1⟩
  have n1 := n0.below b1
  have B1 := below_next b0 b1
  clear n0 b0 b1 c0 c1
  have c0 := n1.c0
  have c1 := n1.c1
  go_wp2_with fail
  refine (V.out _ B1).mono ?_; rintro e w2 ⟨rfl, b2⟩
  have n2 := n1.below b2
  have B2 := below_next B1 b2
  clear n1 B1 b2 c0 c1 V
  have c0 := n2.c0
  have c1 := n2.c1
  go_wp2_with fail
  go_ret
  exact ⟨rfl, B2⟩
theorem du_range (N s t : Int) (m c : Nat) (A : Option Addr) (E : Nat → EdgeD) (w : World) (h : Edges w A m E) (hv : VNet N m E) (hp : ¬ Pair N s t) : DuP N s t m c A w := by
  have V : Hid (∀ u, Below w.heap.size w u → Calls Try.prog 13 #[.agg #[.int .i64 N, .slice A m c]] u fun e w' => e = .returned (.bool true) ∧ Below u.heap.size u w') := fun u hu => refValid_y N A m c E u (h.below hu) hv
  have EE : Hid (∀ u, Below w.heap.size w u → Calls Try.prog 17 #[.agg #[.int .i64 N, .slice A m c], .int .i64 s, .int .i64 t] u fun e w' => e = .returned (.bool false) ∧ Below u.heap.size u w') := fun u _ => ends_any N s t A m c false u ⟨fun e => (by cases e), fun e => absurd e hp⟩
  clear h hv hp
  have n0 := netAt_new w N A m c
  have b0 := below_new w (.cells #[.int .i64 N, .slice A m c] 24)
  have c0 := n0.c0
  have c1 := n0.c1
  go_enter Try.func8, Try.ntmps8
  go_wp2_with fail
  refine (awake_any _).mono ?_; rintro e w1 ⟨rfl, b1⟩
  have n1 := n0.below b1
  have B1 := below_next b0 b1
  clear n0 b0 b1 c0 c1
  have c0 := n1.c0
  have c1 := n1.c1
  go_wp2_with fail
  refine (V.out _ B1).mono ?_; rintro e w2 ⟨rfl, b2⟩
  have n2 := n1.below b2
  have B2 := below_next B1 b2
  clear n1 B1 b2 c0 c1 V
  have c0 := n2.c0
  have c1 := n2.c1
  go_wp2_with fail
  refine (EE.out _ B2).mono ?_; rintro e w3 ⟨rfl, b3⟩
  have n3 := n2.below b3
  have B3 := below_next B2 b3
  clear n2 B2 b3 c0 c1 EE
  have c0 := n3.c0
  have c1 := n3.c1
  go_wp2_with fail
  go_ret
  exact ⟨rfl, B3⟩
theorem du_big (N s t : Int) (m c : Nat) (A : Option Addr) (E : Nat → EdgeD) (w : World) (h : Edges w A m E) (hv : VNet N m E) (hp : Pair N s t) (hb : 10 < N ∨ 100 < m) : DuP N s t m c A w := by
  have V : Hid (∀ u, Below w.heap.size w u → Calls Try.prog 13 #[.agg #[.int .i64 N, .slice A m c]] u fun e w' => e = .returned (.bool true) ∧ Below u.heap.size u w') := fun u hu => refValid_y N A m c E u (h.below hu) hv
  have EE : Hid (∀ u, Below w.heap.size w u → Calls Try.prog 17 #[.agg #[.int .i64 N, .slice A m c], .int .i64 s, .int .i64 t] u fun e w' => e = .returned (.bool true) ∧ Below u.heap.size u w') := fun u _ => ends_any N s t A m c true u ⟨fun _ => hp, fun _ => rfl⟩
  clear h hv hp
  by_cases h1 : 10 < N
  · have q1 : decide (10 < N) = true := decide_eq_true h1
    clear hb
    have n0 := netAt_new w N A m c
    have b0 := below_new w (.cells #[.int .i64 N, .slice A m c] 24)
    have c0 := n0.c0
    have c1 := n0.c1
    go_enter Try.func8, Try.ntmps8
    go_wp2_with fail
    refine (awake_any _).mono ?_; rintro e w1 ⟨rfl, b1⟩
    have n1 := n0.below b1
    have B1 := below_next b0 b1
    clear n0 b0 b1 c0 c1
    have c0 := n1.c0
    have c1 := n1.c1
    go_wp2_with fail
    refine (V.out _ B1).mono ?_; rintro e w2 ⟨rfl, b2⟩
    have n2 := n1.below b2
    have B2 := below_next B1 b2
    clear n1 B1 b2 c0 c1 V
    have c0 := n2.c0
    have c1 := n2.c1
    go_wp2_with fail
    refine (EE.out _ B2).mono ?_; rintro e w3 ⟨rfl, b3⟩
    have n3 := n2.below b3
    have B3 := below_next B2 b3
    clear n2 B2 b3 c0 c1 EE
    have c0 := n3.c0
    have c1 := n3.c1
    go_wp2_with fail
    go_ret
    exact ⟨rfl, B3⟩
  · have q1 : decide (10 < N) = false := decide_eq_false h1
    have q2 : decide (100 < (m : Int)) = true := decide_eq_true (by omega)
    clear hb
    have n0 := netAt_new w N A m c
    have b0 := below_new w (.cells #[.int .i64 N, .slice A m c] 24)
    have c0 := n0.c0
    have c1 := n0.c1
    go_enter Try.func8, Try.ntmps8
    go_wp2_with fail
    refine (awake_any _).mono ?_; rintro e w1 ⟨rfl, b1⟩
    have n1 := n0.below b1
    have B1 := below_next b0 b1
    clear n0 b0 b1 c0 c1
    have c0 := n1.c0
    have c1 := n1.c1
    go_wp2_with fail
    refine (V.out _ B1).mono ?_; rintro e w2 ⟨rfl, b2⟩
    have n2 := n1.below b2
    have B2 := below_next B1 b2
    clear n1 B1 b2 c0 c1 V
    have c0 := n2.c0
    have c1 := n2.c1
    go_wp2_with fail
    refine (EE.out _ B2).mono ?_; rintro e w3 ⟨rfl, b3⟩
    have n3 := n2.below b3
    have B3 := below_next B2 b3
    clear n2 B2 b3 c0 c1 EE
    have c0 := n3.c0
    have c1 := n3.c1
    go_wp2_with fail
    go_ret
    exact ⟨rfl, B3⟩
theorem Net.Reach.lt {Nn : Net} (ok : Nn.Ok) {R : Nat → Int} {s v : Nat} (hs : s < Nn.n) (h : Nn.Reach R s v) : v < Nn.n := by
  induction h with
  | here => exact hs
  | go k hk _ _ _ => exact ok.aT hk
theorem done_eq {Nn : Net} (ok : Nn.Ok) {s t : Nat} {R R' : Nat → Int} (h : Nn.Done s t R) (h' : Nn.Done s t R') (hs : s < Nn.n) {S : Nat → Bool} (hS : ∀ v, S v = true ↔ Nn.Reach R' s v) : Nn.bal (flowOf R) s = Nn.capS S := by
  classical
  have e' := h'.cap ok hs hS
  obtain ⟨S1, hS1⟩ : ∃ S1 : Nat → Bool, ∀ v, S1 v = true ↔ Nn.Reach R s v := ⟨fun v => decide (Nn.Reach R s v), fun v => by simp⟩
  have e1 := h.cap ok hs hS1
  have a1 := Net.weak ok h.flow hs ((hS s).2 .here) (by cases e : S t with | false => rfl | true => exact absurd ((hS t).1 e) h'.no)
  have a2 := Net.weak ok h'.flow hs ((hS1 s).2 .here) (by cases e : S1 t with | false => rfl | true => exact absurd ((hS1 t).1 e) h.no)
  omega
set_option maxRecDepth 100000 in
set_option maxHeartbeats 8000000 in
theorem du_main (n s t m c : Nat) (A : Option Addr) (E : Nat → EdgeD) (w : World) (h : Edges w A m E) (hv : VNet n m E) (hs : s < n) (ht : t < n) (hst : s ≠ t) (hn : n ≤ 10) (hm : m ≤ 100) : DuP n s t m c A w := by
  have hp : Pair n s t := ⟨by omega, ⟨by omega, by omega⟩, by omega, by omega⟩
  have V : Hid (∀ u, Below w.heap.size w u → Calls Try.prog 13 #[.agg #[.int .i64 n, .slice A m c]] u fun e w' => e = .returned (.bool true) ∧ Below u.heap.size u w') := fun u hu => refValid_y n A m c E u (h.below hu) hv
  have EE : Hid (∀ u, Below w.heap.size w u → Calls Try.prog 17 #[.agg #[.int .i64 n, .slice A m c], .int .i64 s, .int .i64 t] u fun e w' => e = .returned (.bool true) ∧ Below u.heap.size u w') := fun u _ => ends_any n s t A m c true u ⟨fun _ => hp, fun _ => rfl⟩
  have M1 : Hid (∀ u, Below w.heap.size w u → Calls Try.prog 16 #[.agg #[.int .i64 n, .slice A m c], .int .i64 s, .int .i64 t] u (MaxOk u (netOf n m E) s t)) := fun u hu => max_ok n m c s t A E u (h.below hu) hv hs ht hst
  have M2 : Hid (∀ u, Below w.heap.size w u → Calls Try.prog 21 #[.agg #[.int .i64 n, .slice A m c], .int .i64 s, .int .i64 t] u (CutOk u n (netOf n m E) s t)) := fun u hu => cut_ok n m c s t A E u (h.below hu) hv hs ht hst
  have HH := Lib.hid h; clear h
  have HV := Lib.hid hv; clear hv
  clear hp
  have q1 : decide (10 < (n : Int)) = false := decide_eq_false (by omega)
  have q2 : decide (100 < (m : Int)) = false := decide_eq_false (by omega)
  have hk1 : (n + 63) / 64 = 1 := by omega
  have hpw : 2 ^ n ≤ 1024 := by
    have : 2 ^ n ≤ 2 ^ 10 := Nat.pow_le_pow_right (by decide) hn
    exact this
  have n0 := netAt_new w n A m c
  have b0 := below_new w (.cells #[.int .i64 n, .slice A m c] 24)
  have c0 := n0.c0
  have c1 := n0.c1
  go_enter Try.func8, Try.ntmps8
  go_wp2_with fail
  refine (awake_any _).mono ?_; rintro e w1 ⟨rfl, b1⟩
  have n1 := n0.below b1
  have B1 := below_next b0 b1
  clear n0 b0 b1 c0 c1
  have c0 := n1.c0
  have c1 := n1.c1
  go_wp2_with fail
  refine (V.out _ B1).mono ?_; rintro e w2 ⟨rfl, b2⟩
  have n2 := n1.below b2
  have B2 := below_next B1 b2
  clear n1 B1 b2 c0 c1 V
  have c0 := n2.c0
  have c1 := n2.c1
  go_wp2_with fail
  refine (EE.out _ B2).mono ?_; rintro e w3 ⟨rfl, b3⟩
  have n3 := n2.below b3
  have B3 := below_next B2 b3
  clear n2 B2 b3 c0 c1 EE
  have c0 := n3.c0
  have c1 := n3.c1
  go_wp2_with fail
  refine (M1.out _ B3).mono ?_; rintro e w4 ⟨gL, R, rfl, hL, hD, hgL, b4⟩
  have n4 := n3.below b4
  have B4 := below_next B3 b4
  clear n3 B3 b4 c0 c1 M1 hgL
  have c0 := n4.c0
  have c1 := n4.c1
  replace hL : w4.rowIs gL 3 m (ivals (flowOf R)) := hL
  rw [show (netOf n m E).m = m from rfl]
  have HL4 := Lib.hid hL; clear hL
  have HD := Lib.hid hD; clear hD
  obtain ⟨v, hvv⟩ : ∃ v, v = (netOf n m E).bal (flowOf R) s := ⟨_, rfl⟩
  rw [← hvv]
  have HVV := Lib.hid hvv; clear hvv
  go_wp2_with fail
  refine (M2.out _ B4).mono ?_; rintro e w5 ⟨gX, l, R', rfl, hX, hD', hl, hgX, b5⟩
  have hS : ∀ a, bt (setF l) a = true ↔ (netOf n m E).Reach R' s a := fun a => by
    rw [setF_bt, hl]
    exact ⟨fun h => h.2, fun h => ⟨h.lt HV.out.ok hs, h⟩⟩
  have hvc : v = (netOf n m E).capS (bt (setF l)) := by rw [HVV.out]; exact done_eq HV.out.ok HD.out hD' hs hS
  have hvc' : (netOf n m E).bal (flowOf R') s = v := by rw [hvc]; exact hD'.cap HV.out.ok hs hS
  rw [← hvc]
  have bS := below_new w5 (.cells #[.int .i64 n, .slice (some ⟨gX, 0, none⟩) ((n + 63) / 64) ((n + 63) / 64)] 28)
  have s5 := setAt_new w5 n (some ⟨gX, 0, none⟩) ((n + 63) / 64) ((n + 63) / 64)
  have n5 := (n4.below b5).below bS
  have B5 := below_next (below_next B4 b5) bS
  have hX5 := row_below hX bS
  have hL5 := row_below (row_below HL4.out b5) bS
  have HCk : Hid (∀ u, Below w.heap.size w u → Ints u (some ⟨gL, 0, none⟩) m (flowOf R) → Wds u (some ⟨gX, 0, none⟩) ((n + 63) / 64) (setF l) → Calls Try.prog 14 #[.agg #[.int .i64 n, .slice A m c], .int .i64 s, .int .i64 t, .slice (some ⟨gL, 0, none⟩) m m, .agg #[.int .i64 n, .slice (some ⟨gX, 0, none⟩) ((n + 63) / 64) ((n + 63) / 64)]] u fun e w' => e = .returned (.bool true) ∧ Below u.heap.size u w') := fun u hu h1 h2 =>
    check_yes n m c s t m ((n + 63) / 64) ((n + 63) / 64) A _ _ E (flowOf R) (setF l) u (HH.out.below hu) HV.out hs ht hst h1 HD.out.flow h2 (setF_vld (by omega) (fun x hx => ((hl x).1 hx).1)) ((hS s).2 .here) (by cases e : bt (setF l) t with | false => rfl | true => exact absurd ((hS t).1 e) hD'.no) (by rw [← HVV.out, hvc])
  have HC5 := Lib.hid (HCk.out _ B5 (Row.ints hL5) (row_wds hX5 (setF_u64 _ _)))
  have hXlt := small_lt (l := l) (k := n) (fun a ha => ((hl a).1 ha).1)
  have HSM : Hid (∀ a, a < n → bt (setF l) a = (setF l 0).testBit a) := fun a _ => small_bt (by omega)
  have hbst : Hid (∀ M : Nat, M.testBit s = true → M.testBit t = false → v ≤ (netOf n m E).capS M.testBit ∧ (v = (netOf n m E).capS M.testBit → M &&& setF l 0 = setF l 0)) := fun M h1 h2 => by
    refine ⟨?_, fun he => and_sub (k := n) hXlt fun a ha hx => ?_⟩
    · rw [HVV.out]; exact Net.weak HV.out.ok HD.out.flow hs h1 h2
    · refine Net.Done.near HV.out.ok hD' hs h1 h2 (by rw [hvc', he]) a ((hS a).1 ?_)
      rw [HSM.out a ha]; exact hx
  rw [hk1] at hX5 HC5 s5 n5 B5 ⊢
  have hxc : _ = _ := hX5.cell (i := 0) (by decide)
  have hgl := hX5.lt
  have hvle : -2251799813685248000 ≤ v ∧ v ≤ 2251799813685248000 := by
    rw [hvc]
    have := Net.capK_bound (netOf n m E) HV.out.ok (bt (setF l)) (K := m) (Nat.le_refl _)
    have e : (netOf n m E).capK (bt (setF l)) m = (netOf n m E).capS (bt (setF l)) := rfl
    rw [e] at this; omega
  clear HCk hX hD' hl hS hvc hvc' hX5 hL5 HL4 HD M2 c0 c1 n4 B4 b5 bS HVV hgX HSM
  obtain ⟨X, hXX⟩ : ∃ X, X = setF l 0 := ⟨_, rfl⟩
  rw [← hXX] at hXlt hbst
  have hX4 : X ≤ 1024 := by omega
  replace hxc : (w5.alloc (.cells #[.int .i64 (n : Int), .slice (some ⟨gX, 0, none⟩) 1 1] 28)).cell? ⟨gX, 0, none⟩ = some (.int .u64 (X : Int)) := by rw [hXX]; exact hxc
  clear hXX
  have hmin : min n 64 = n := Nat.min_eq_left (by omega)
  have hms : min s 64 = s := Nat.min_eq_left (by omega)
  have hmt : min t 64 = t := Nat.min_eq_left (by omega)
  obtain ⟨P, hP⟩ : ∃ P : Nat, P = 2 ^ n := ⟨_, rfl⟩
  have hshl : IntKind.u64.wrap ((2 : Int) ^ n) = (P : Int) := by
    have e : ((2 : Int) ^ n) = ((2 ^ n : Nat) : Int) := by simp
    rw [e, hP]; exact wrap_nat _ (by omega)
  rw [← hP] at hXlt hpw
  clear hP
  have qv : (v != v) = false := by simp
  have c0 := n5.c0
  have c1 := n5.c1
  have d0 := s5.c0
  have d1 := s5.c1
  go_wp2_with fail
  refine HC5.out.mono ?_; rintro e w6 ⟨rfl, b6⟩
  have n6 := n5.below b6
  have s6 := s5.below b6
  have B6 := below_next B5 b6
  have hx6 := (b6.cell (p := ⟨gX, 0, none⟩) hgl).trans hxc
  have hgl6 : gX < w6.heap.size := Nat.lt_of_lt_of_le hgl b6.size
  clear n5 s5 B5 b6 c0 c1 d0 d1 HC5 hxc hgl
  generalize w5.heap.size = px at *
  have c0 := n6.c0
  have c1 := n6.c1
  have d1 := s6.c1
  go_wp2_with fail
  clear c0 c1 d1
  go_loopw [13, 14, 16, 85] (fun _ _ _ i wr => ∃ M : Nat, M ≤ P ∧ i = .int .u64 M ∧ Below w6.heap.size w6 wr) (fun _ _ _ i _ => P - (intOf i).toNat)
  case atStart => exact ⟨0, by omega, rfl, Below.refl _ _⟩
  case round =>
    obtain ⟨M, hM, rfl, hB⟩ := hrel
    by_cases hlt : M < P
    · have hwm : IntKind.u64.wrap ((M : Int) + 1) = (M : Int) + 1 := by have := wrap_nat (M + 1) (by omega); rw [show ((M + 1 : Nat) : Int) = (M : Int) + 1 by omega] at this; exact this
      have hM64 : M < 18446744073709551616 := by omega
      have ts := and_zero_test M s hM64
      have tt := and_one_test M t hM64
      obtain ⟨vs, hvs⟩ : ∃ vs, M.testBit s = vs := ⟨_, rfl⟩
      obtain ⟨vt, hvt⟩ : ∃ vt, M.testBit t = vt := ⟨_, rfl⟩
      rw [hvs] at ts
      rw [hvt] at tt
      have HVS := Lib.hid hvs; clear hvs
      have HVT := Lib.hid hvt; clear hvt
      cases vs with
      | false =>
        go_wp2_with fail
        go_roundw
        case rel => exact ⟨M + 1, by omega, by go_num, hB⟩
        case measure => simp [intOf]; omega
      | true =>
        cases vt with
        | true =>
          go_wp2_with fail
          go_roundw
          case rel => exact ⟨M + 1, by omega, by go_num, hB⟩
          case measure => simp [intOf]; omega
        | false =>
          obtain ⟨hle, heq⟩ := hbst.out M HVS.out HVT.out
          have HEQ := Lib.hid heq
          clear heq HVS HVT
          have n7 := n6.below hB
          have c1 := n7.c1
          go_wp2_with fail
          clear c1 n7
          go_loopw [14, 16, 103] (fun sm _ i w7 => ∃ K : Nat, K ≤ m ∧ i = .int .i64 K ∧ sm = .int .i64 ((netOf n m E).capK M.testBit K) ∧ Below wr.heap.size wr w7) (fun _ _ i _ => m - (intOf i).toNat)
          case atStart => exact ⟨0, by omega, rfl, rfl, Below.refl _ _⟩
          case round =>
            obtain ⟨K, hK, rfl, rfl, hB7⟩ := hrel
            by_cases hlt2 : K < m
            · obtain ⟨b, off, rfl, hbl, hcz⟩ := (HH.out.below (below_next B6 (below_next hB hB7))) (by omega)
              obtain ⟨x0, x1, x2⟩ := hcz K hlt2
              clear hcz
              have hfn := HV.out.ok.fr K hlt2
              have htn := HV.out.ok.tt K hlt2
              rw [HV.out.fr hlt2] at x0
              rw [HV.out.tt hlt2] at x1
              have hcc : 0 ≤ (E K).c ∧ (E K).c ≤ 1125899906842624 := (HV.out.2.2.2 K hlt2).2
              have hbd := Net.capK_bound (netOf n m E) HV.out.ok M.testBit (K := K) (by exact hK)
              have hstep : Hid ((netOf n m E).capK M.testBit (K + 1) = (netOf n m E).capK M.testBit K + (if M.testBit ((netOf n m E).fr K) = true ∧ M.testBit ((netOf n m E).tt K) = false then (E K).c else 0)) := rfl
              replace hfn : (netOf n m E).fr K < n := hfn
              replace htn : (netOf n m E).tt K < n := htn
              have hwrap : IntKind.i64.wrap ((K : Int) + 1) = (K : Int) + 1 := IntWalk.i64_in _ (by omega)
              generalize (netOf n m E).capK M.testBit K = S at *
              generalize (netOf n m E).fr K = fr at *
              generalize (netOf n m E).tt K = to_ at *
              generalize (E K).c = ec at *
              have hw1 : IntKind.i64.wrap (S + ec) = S + ec := IntWalk.i64_in _ (by omega)
              have m1 : min fr 64 = fr := Nat.min_eq_left (by omega)
              have m2 : min to_ 64 = to_ := Nat.min_eq_left (by omega)
              have t1 := and_one_test M fr hM64
              have t2 := and_zero_test M to_ hM64
              obtain ⟨va, hva⟩ : ∃ va, M.testBit fr = va := ⟨_, rfl⟩
              obtain ⟨vb, hvb⟩ : ∃ vb, M.testBit to_ = vb := ⟨_, rfl⟩
              rw [hva] at t1
              rw [hvb] at t2
              have hst2 : Hid ((netOf n m E).capK M.testBit (K + 1) = S + (if va = true ∧ vb = false then ec else 0)) := by have := hstep.out; rw [hva, hvb] at this; exact this
              clear hva hvb hstep
              have bE := below_new wr (.cells #[.int .i64 fr, .int .i64 to_, .int .i64 ec] 50)
              have e2 : (wr.alloc (.cells #[.int .i64 fr, .int .i64 to_, .int .i64 ec] 50)).heap[wr.heap.size]? = some (.cells #[.int .i64 fr, .int .i64 to_, .int .i64 ec] 50 (0, 0)) := heap_alloc_new wr _
              have B8 := below_next hB7 bE
              have y0 := cell_of_row _ _ 0 _ _ _ e2
              have y1 := cell_of_row _ _ 1 _ _ _ e2
              have y2 := cell_of_row _ _ 2 _ _ _ e2
              clear e2 bE HEQ hle
              cases va with
              | false =>
                have hz : Hid ((netOf n m E).capK M.testBit (K + 1) = S) := by show _ = _; have := hst2.out; simpa using this
                clear hst2
                go_wp2_with fail
                go_roundw
                case rel => exact ⟨K + 1, by omega, by go_num, by rw [hz.out], B8⟩
                case measure => simp [intOf]; omega
              | true =>
                cases vb with
                | false =>
                  have hz : Hid ((netOf n m E).capK M.testBit (K + 1) = S + ec) := by show _ = _; have := hst2.out; simpa using this
                  clear hst2
                  go_wp2_with fail
                  go_roundw
                  case rel => exact ⟨K + 1, by omega, by go_num, by rw [hz.out], B8⟩
                  case measure => simp [intOf]; omega
                | true =>
                  have hz : Hid ((netOf n m E).capK M.testBit (K + 1) = S) := by show _ = _; have := hst2.out; simpa using this
                  clear hst2
                  go_wp2_with fail
                  go_roundw
                  case rel => exact ⟨K + 1, by omega, by go_num, by rw [hz.out], B8⟩
                  case measure => simp [intOf]; omega
            · obtain rfl : K = m := by omega
              have hBW := below_next hB hB7
              have s8 := s6.below hBW
              have c1 := s8.c1
              have cX := (hBW.cell (p := ⟨gX, 0, none⟩) hgl6).trans hx6
              have hand : bits .and .u64 (M : Int) (X : Int) = ((M &&& X : Nat) : Int) := and_u64 M X hM64 (by omega)
              replace hle : v ≤ (netOf n K E).capK M.testBit K := hle
              replace HEQ : Hid (v = (netOf n K E).capK M.testBit K → M &&& X = X) := HEQ
              generalize (netOf n K E).capK M.testBit K = S at *
              have q5 : decide (S < v) = false := decide_eq_false (by omega)
              by_cases hSv : v = S
              · have hMX := HEQ.out hSv
                rw [hMX] at hand
                have q6 : (S == v) = true := by simp [hSv]
                have q8 : ((X : Int) != (X : Int)) = false := by simp
                clear hSv hMX HEQ hle
                go_wp2_with fail
                go_quiet (fail)
                go_wp2_with fail
                go_roundw
                case rel => exact ⟨M + 1, by omega, by go_num, below_drewN hBW _⟩
                case measure => simp [intOf]; omega
              · have q6 : (S == v) = false := beq_false_of_ne (fun e => hSv e.symm)
                clear hSv HEQ hle
                go_wp2_with fail
                go_quiet (fail)
                go_wp2_with fail
                go_roundw
                case rel => exact ⟨M + 1, by omega, by go_num, below_drewN hBW _⟩
                case measure => simp [intOf]; omega
    · obtain rfl : M = P := by omega
      go_wp2_with fail
      go_ret
      exact ⟨rfl, below_next B6 hB⟩
theorem du_law (N s t : Int) (m c : Nat) (A : Option Addr) (E : Nat → EdgeD) (w : World) (h : Edges w A m E) : DuP N s t m c A w := by
  by_cases hv : VNet N m E
  · by_cases hp : Pair N s t
    · by_cases hb : 10 < N ∨ 100 < m
      · exact du_big N s t m c A E w h hv hp hb
      · obtain ⟨n, rfl⟩ := Int.eq_ofNat_of_zero_le (show 0 ≤ N by have := hv.1; omega)
        obtain ⟨s', rfl⟩ := Int.eq_ofNat_of_zero_le hp.2.1.1
        obtain ⟨t', rfl⟩ := Int.eq_ofNat_of_zero_le hp.2.2.1
        have h1 := hp.1
        have h2 := hp.2.1.2
        have h3 := hp.2.2.2
        exact du_main n s' t' m c A E w h hv (by omega) (by omega) (fun e => h1 (by rw [e])) (by omega) (by omega)
    · exact du_range N s t m c A E w h hv hp
  · exact du_arg N s t m c A E w h hv
end Go.Proofs.Ytjdceafkcakbjaa
