/- FlowMaximum: the law's own text, walked: it returns true for all networks and ends. -/
import Derived.Test.YtjdceafkcakbjaaFBe
import Derived.Test.YtjdceafkcakbjaaFCkB
import Derived.Test.YtjdceafkcakbjaaFRMx
import Derived.Test.YtjdceafkcakbjaaLDu
namespace Go.Proofs.Ytjdceafkcakbjaa
open Go.RowKit Go.Sort
def MxP (N s t : Int) (m c : Nat) (A : Option Addr) (w : World) : Prop := Calls Try.prog 4 #[.agg #[.int .i64 N, .slice A m c], .int .i64 s, .int .i64 t] w fun e w' => e = .returned (.bool true) ∧ Below w.heap.size w w'
/- the same, with the numbers written out -/
def MaxM (w : World) (n m : Nat) (E : Nat → EdgeD) (s t : Nat) (e : Ending) (w' : World) : Prop :=
  ∃ g R, e = .returned (.tuple #[.int .i64 ((netOf n m E).bal (flowOf R) s), .slice (some ⟨g, 0, none⟩) m m, .int .i64 0]) ∧ w'.rowIs g 3 m (ivals (flowOf R)) ∧ (netOf n m E).Done s t R ∧ w.heap.size ≤ g ∧ Below w.heap.size w w'
def RMaxM (w : World) (n m : Nat) (E : Nat → EdgeD) (s t : Nat) (e : Ending) (w' : World) : Prop :=
  ∃ g F, e = .returned (.slice (some ⟨g, 0, none⟩) m m) ∧ w'.rowIs g 3 m (ivals F) ∧ (netOf n m E).Done s t (resid (netOf n m E).cp F) ∧ w.heap.size ≤ g ∧ Below w.heap.size w w'
theorem mx_few (N s t : Int) (m c : Nat) (A : Option Addr) (w : World) (hf : ¬ Few N m) : MxP N s t m c A w := by
  have HFEW := Lib.hid hf; clear hf
  have n0 := netAt_new w N A m c
  have b0 := below_new w (.cells #[.int .i64 N, .slice A m c] 24)
  have c0 := n0.c0
  have c1 := n0.c1
  go_enter Try.func4, Try.ntmps4
  go_wp2_with fail
  refine (awake_any _).mono ?_; rintro e w1 ⟨rfl, b1⟩
  have n1 := n0.below b1
  have B1 := below_next b0 b1
  clear n0 b0 b1 c0 c1
  have c0 := n1.c0
  have c1 := n1.c1
  go_wp2_with fail
  refine (few_any N A m c false _ (no_iff HFEW.out)).mono ?_; rintro e w2 ⟨rfl, b2⟩
  have B2 := below_next B1 b2
  go_wp2_with fail
  go_ret
  exact ⟨rfl, B2⟩
theorem mx_err (N s t er : Int) (m c : Nat) (A : Option Addr) (E : Nat → EdgeD) (w : World) (h : Edges w A m E) (hf : Few N m) (hx : (¬ VNet N m E ∧ er = 1) ∨ (VNet N m E ∧ ¬ Pair N s t ∧ er = 2)) : MxP N s t m c A w := by
  have M : Hid (∀ u, Below w.heap.size w u → Calls Try.prog 16 #[.agg #[.int .i64 N, .slice A m c], .int .i64 s, .int .i64 t] u fun e w' => e = .returned (.tuple #[.int .i64 0, .slice none 0 0, .int .i64 er]) ∧ Below u.heap.size u w') := fun u hu => max_err N s t er A m c E u (h.below hu) hx
  have HFEW := Lib.hid hf; clear hf
  rcases hx with ⟨hv, rfl⟩ | ⟨hv, hp, rfl⟩
  · have V : Hid (∀ u, Below w.heap.size w u → Calls Try.prog 13 #[.agg #[.int .i64 N, .slice A m c]] u fun e w' => e = .returned (.bool false) ∧ Below u.heap.size u w') := fun u hu => refValid_n N A m c E u (h.below hu) hv
    clear h hv
    have n0 := netAt_new w N A m c
    have b0 := below_new w (.cells #[.int .i64 N, .slice A m c] 24)
    have c0 := n0.c0
    have c1 := n0.c1
    go_enter Try.func4, Try.ntmps4
    go_wp2_with fail
    refine (awake_any _).mono ?_; rintro e w1 ⟨rfl, b1⟩
    have n1 := n0.below b1
    have B1 := below_next b0 b1
    clear n0 b0 b1 c0 c1
    have c0 := n1.c0
    have c1 := n1.c1
    go_wp2_with fail
    refine (few_any N A m c true _ (yes_iff HFEW.out)).mono ?_; rintro e w2 ⟨rfl, b2⟩
    have n2 := n1.below b2
    have B2 := below_next B1 b2
    clear n1 B1 b2 c0 c1
    have c0 := n2.c0
    have c1 := n2.c1
    go_wp2_with fail
    refine (M.out _ B2).mono ?_; rintro e w3 ⟨rfl, b3⟩
    have n3 := n2.below b3
    have B3 := below_next B2 b3
    clear n2 B2 b3 c0 c1
    have c0 := n3.c0
    have c1 := n3.c1
    go_wp2_with fail
    refine (V.out _ B3).mono ?_; rintro e w4 ⟨rfl, b4⟩
    have B4 := below_next B3 b4
    clear n3 B3 b4 c0 c1 M V
    go_wp2_with fail
    go_ret
    exact ⟨rfl, B4⟩
  · have V : Hid (∀ u, Below w.heap.size w u → Calls Try.prog 13 #[.agg #[.int .i64 N, .slice A m c]] u fun e w' => e = .returned (.bool true) ∧ Below u.heap.size u w') := fun u hu => refValid_y N A m c E u (h.below hu) hv
    have EE : Hid (∀ u, Below w.heap.size w u → Calls Try.prog 17 #[.agg #[.int .i64 N, .slice A m c], .int .i64 s, .int .i64 t] u fun e w' => e = .returned (.bool false) ∧ Below u.heap.size u w') := fun u _ => ends_any N s t A m c false u ⟨fun e => (by cases e), fun e => absurd e hp⟩
    clear h hv hp
    have n0 := netAt_new w N A m c
    have b0 := below_new w (.cells #[.int .i64 N, .slice A m c] 24)
    have c0 := n0.c0
    have c1 := n0.c1
    go_enter Try.func4, Try.ntmps4
    go_wp2_with fail
    refine (awake_any _).mono ?_; rintro e w1 ⟨rfl, b1⟩
    have n1 := n0.below b1
    have B1 := below_next b0 b1
    clear n0 b0 b1 c0 c1
    have c0 := n1.c0
    have c1 := n1.c1
    go_wp2_with fail
    refine (few_any N A m c true _ (yes_iff HFEW.out)).mono ?_; rintro e w2 ⟨rfl, b2⟩
    have n2 := n1.below b2
    have B2 := below_next B1 b2
    clear n1 B1 b2 c0 c1
    have c0 := n2.c0
    have c1 := n2.c1
    go_wp2_with fail
    refine (M.out _ B2).mono ?_; rintro e w3 ⟨rfl, b3⟩
    have n3 := n2.below b3
    have B3 := below_next B2 b3
    clear n2 B2 b3 c0 c1
    have c0 := n3.c0
    have c1 := n3.c1
    go_wp2_with fail
    refine (V.out _ B3).mono ?_; rintro e w4 ⟨rfl, b4⟩
    have n4 := n3.below b4
    have B4 := below_next B3 b4
    clear n3 B3 b4 c0 c1 M V
    have c0 := n4.c0
    have c1 := n4.c1
    go_wp2_with fail
    refine (EE.out _ B4).mono ?_; rintro e w5 ⟨rfl, b5⟩
    have B5 := below_next B4 b5
    clear n4 B4 b5 c0 c1
    go_wp2_with fail
    go_ret
    exact ⟨rfl, B5⟩
theorem done_bal {Nn : Net} (ok : Nn.Ok) {s t : Nat} {R R' : Nat → Int} (h : Nn.Done s t R) (h' : Nn.Done s t R') (hs : s < Nn.n) : Nn.bal (flowOf R') s = Nn.bal (flowOf R) s := by
  classical
  obtain ⟨S, hS⟩ : ∃ S : Nat → Bool, ∀ v, S v = true ↔ Nn.Reach R' s v := ⟨fun v => decide (Nn.Reach R' s v), fun v => by simp⟩
  rw [done_eq ok h h' hs hS, h'.cap ok hs hS]
theorem flow_p {n m s t : Nat} {E : Nat → EdgeD} {R : Nat → Int} (h : (netOf n m E).Done s t R) : FlowP n m m s t E (flowOf R) :=
  ⟨rfl, fun i hi => ⟨h.flow.r0 i hi, h.flow.r1 i hi⟩, fun a ha => by
    by_cases e1 : a = s
    · exact Or.inr (Or.inl e1)
    · by_cases e2 : a = t
      · exact Or.inr (Or.inr e2)
      · exact Or.inl (h.flow.b a ha e1 e2)⟩
theorem flow_rng {n m s t : Nat} {E : Nat → EdgeD} {F : Nat → Int} (hv : VNet n m E) (h : (netOf n m E).Flow s t F) : ∀ i, i < m → 0 ≤ F i ∧ F i ≤ 1125899906842624 := fun i hi =>
  ⟨h.r0 i hi, Int.le_trans (h.r1 i hi) (hv.ok.c1 i hi)⟩
set_option maxHeartbeats 4000000 in
theorem mx_ok (n s t m c : Nat) (A : Option Addr) (E : Nat → EdgeD) (w : World) (h : Edges w A m E) (hf : Few n m) (hv : VNet n m E) (hs : s < n) (ht : t < n) (hst : s ≠ t) : MxP n s t m c A w := by
  have hp : Pair n s t := ⟨by omega, by omega, by omega⟩
  have HH := Lib.hid h
  have HV := Lib.hid hv
  have HS := Lib.hid hs
  have V : Hid (∀ u, Below w.heap.size w u → Calls Try.prog 13 #[.agg #[.int .i64 n, .slice A m c]] u fun e w' => e = .returned (.bool true) ∧ Below u.heap.size u w') := fun u hu => refValid_y n A m c E u (h.below hu) hv
  have EE : Hid (∀ u, Below w.heap.size w u → Calls Try.prog 17 #[.agg #[.int .i64 n, .slice A m c], .int .i64 s, .int .i64 t] u fun e w' => e = .returned (.bool true) ∧ Below u.heap.size u w') := fun u _ => ends_any n s t A m c true u ⟨fun _ => hp, fun _ => rfl⟩
  have M : Hid (∀ u, Below w.heap.size w u → Calls Try.prog 16 #[.agg #[.int .i64 n, .slice A m c], .int .i64 s, .int .i64 t] u (MaxM u n m E s t)) := fun u hu => max_ok n m c s t A E u (h.below hu) hv hs ht hst
  have RM : Hid (∀ u, Below w.heap.size w u → Calls Try.prog 20 #[.agg #[.int .i64 n, .slice A m c], .int .i64 s, .int .i64 t] u (RMaxM u n m E s t)) := fun u hu => refMax_any n m c s t A E u (h.below hu) hv hs ht hst
  have HFEW := Lib.hid hf
  clear hf hv hs ht hst hp h
  have n0 := netAt_new w n A m c
  have b0 := below_new w (.cells #[.int .i64 n, .slice A m c] 24)
  have c0 := n0.c0
  have c1 := n0.c1
  go_enter Try.func4, Try.ntmps4
  go_wp2_with fail
  refine (awake_any _).mono ?_; rintro e w1 ⟨rfl, b1⟩
  have n1 := n0.below b1
  have B1 := below_next b0 b1
  clear n0 b0 b1 c0 c1
  have c0 := n1.c0
  have c1 := n1.c1
  go_wp2_with fail
  refine (few_any n A m c true _ (yes_iff HFEW.out)).mono ?_; rintro e w2 ⟨rfl, b2⟩
  have n2 := n1.below b2
  have B2 := below_next B1 b2
  clear n1 B1 b2 c0 c1
  have c0 := n2.c0
  have c1 := n2.c1
  go_wp2_with fail
  refine (M.out _ B2).mono ?_; rintro e w3 ⟨gl, R, rfl, hrl, hdn, hgl, b3⟩
  replace hrl : w3.rowIs gl 3 m (ivals (flowOf R)) := hrl
  have hglt := hrl.lt
  have HR3 := Lib.hid hrl
  have n3 := n2.below b3
  have B3 := below_next B2 b3
  clear n2 B2 b3 c0 c1 hrl
  have hfp := flow_p hdn
  obtain ⟨VV, hVV⟩ : ∃ VV, (netOf n m E).bal (flowOf R) s = VV := ⟨_, rfl⟩
  have C1 : Hid (∀ u, Below w3.heap.size w3 u → Calls Try.prog 18 #[.agg #[.int .i64 n, .slice A m c], .int .i64 s, .int .i64 t, .slice (some ⟨gl, 0, none⟩) m m] u fun e w' => e = .returned (.bool true) ∧ Below u.heap.size u w') := fun u hu =>
    refFlow_any n s t m m c m true A (some ⟨gl, 0, none⟩) E (flowOf R) u (HH.out.below (below_next B3 hu)) HV.out ((Row.ints HR3.out).below hu) (yes_iff hfp)
  have C2 : Hid (∀ u, Below w3.heap.size w3 u → Calls Try.prog 19 #[.agg #[.int .i64 n, .slice A m c], .int .i64 s, .slice (some ⟨gl, 0, none⟩) m m] u fun e w' => e = .returned (.int .i64 VV) ∧ Below u.heap.size u w') := fun u hu => by
    rw [← hVV]
    exact refValue_any n m c m s A (some ⟨gl, 0, none⟩) E (flowOf R) u (HH.out.below (below_next B3 hu)) HV.out ((Row.ints HR3.out).below hu) (flow_rng HV.out hdn.flow)
  have C3 : Hid (∀ u, Below w3.heap.size w3 u → Calls Try.prog 20 #[.agg #[.int .i64 n, .slice A m c], .int .i64 s, .int .i64 t] u (RMaxM u n m E s t)) := fun u hu => RM.out u (below_next B3 hu)
  have C4 : Hid (∀ g F u, u.rowIs g 3 m (ivals F) → (netOf n m E).Done s t (resid (netOf n m E).cp F) → Below w3.heap.size w3 u → Calls Try.prog 19 #[.agg #[.int .i64 n, .slice A m c], .int .i64 s, .slice (some ⟨g, 0, none⟩) m m] u fun e w' => e = .returned (.int .i64 VV) ∧ Below u.heap.size u w') := fun g F u hr hd hu => by
    have e1 := done_bal HV.out.ok hdn hd HS.out
    rw [resid_flowOf, hVV] at e1
    have hfl := hd.flow
    rw [resid_flowOf] at hfl
    rw [← e1]
    exact refValue_any n m c m s A (some ⟨g, 0, none⟩) E F u (HH.out.below (below_next B3 hu)) HV.out (Row.ints hr) (flow_rng HV.out hfl)
  rw [hVV]
  have HN3 := Lib.hid n3
  clear hfp hdn M RM
  have hd0 := Lib.hid hVV
  clear hVV
  have c0 := n3.c0
  have c1 := n3.c1
  go_wp2_with fail
  refine (V.out _ B3).mono ?_; rintro e w4 ⟨rfl, b4⟩
  have n4 := n3.below b4
  have B4 := b4
  clear n3 b4 c0 c1
  have c0 := n4.c0
  have c1 := n4.c1
  go_wp2_with fail
  refine (EE.out _ (below_next B3 B4)).mono ?_; rintro e w5 ⟨rfl, b5⟩
  have n5 := n4.below b5
  have B5 := below_next B4 b5
  clear n4 B4 b5 c0 c1 V EE
  have c0 := n5.c0
  have c1 := n5.c1
  go_upto_region 10 with fail
  have hss : Hid (∀ w', Below w3.heap.size w3 w' → Below w3.heap.size w3 w' ∧ w'.cell? ⟨w.heap.size, 0, none⟩ = some (.int .i64 n) ∧ w'.cell? ⟨w.heap.size, 1, none⟩ = some (.slice A m c)) := fun w' b => ⟨b, (HN3.out.below b).c0, (HN3.out.below b).c1⟩
  go_region_held3 (fun w' => Below w3.heap.size w3 w' ∧ w'.cell? ⟨w.heap.size, 0, none⟩ = some (.int .i64 n) ∧ w'.cell? ⟨w.heap.size, 1, none⟩ = some (.slice A m c))
    (first
      | exact hss.out _ B5
      | exact hss.out _ B5.drew
      | exact hss.out _ bc6
      | exact hss.out _ bc7
      | exact hss.out _ bc8
      | exact hss.out _ bc9)
    (first
      | (go_at_call 18; (with_reducible refine (C1.out _ (And.left (by assumption))).mono ?_); rintro e w6 ⟨rfl, b6⟩; have bc6 := below_next (And.left (by assumption)) b6)
      | (go_at_call 19; (with_reducible refine (C2.out _ (And.left (by assumption))).mono ?_); rintro e w7 ⟨rfl, b7⟩; have bc7 := below_next (And.left (by assumption)) b7)
      | (go_at_call 20; (with_reducible refine (C3.out _ (And.left (by assumption))).mono ?_); rintro e w8 ⟨g2, F2, rfl, hr2, hd2, hg2, b8⟩; have bc8 := below_next (And.left (by assumption)) b8)
      | (go_at_call 19; (with_reducible refine (C4.out _ _ _ hr2 hd2 (And.left (by assumption))).mono ?_); rintro e w9 ⟨rfl, b9⟩; have bc9 := below_next (And.left (by assumption)) b9))
  all_goals
    have hbb := And.left (by assumption)
    go_wp2_with fail
    go_ret
    exact ⟨by simp, below_next B3 hbb⟩
theorem mx_law (N s t : Int) (m c : Nat) (A : Option Addr) (E : Nat → EdgeD) (w : World) (h : Edges w A m E) : MxP N s t m c A w := by
  by_cases hf : Few N m
  · by_cases hv : VNet N m E
    · by_cases hp : Pair N s t
      · obtain ⟨n, rfl⟩ := Int.eq_ofNat_of_zero_le (show 0 ≤ N by have := hv.1; omega)
        obtain ⟨s, rfl⟩ := Int.eq_ofNat_of_zero_le hp.2.1.1
        obtain ⟨t, rfl⟩ := Int.eq_ofNat_of_zero_le hp.2.2.1
        exact mx_ok n s t m c A E w h hf hv (by have := hp.2.1.2; omega) (by have := hp.2.2.2; omega) (fun e => hp.1 (by rw [e]))
      · exact mx_err N s t 2 m c A E w h hf (Or.inr ⟨hv, hp, rfl⟩)
    · exact mx_err N s t 1 m c A E w h hf (Or.inl ⟨hv, rfl⟩)
  · exact mx_few N s t m c A w hf
end Go.Proofs.Ytjdceafkcakbjaa
