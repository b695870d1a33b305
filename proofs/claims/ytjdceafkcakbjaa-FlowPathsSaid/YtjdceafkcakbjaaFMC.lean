/- The contract of flow.Max. -/
import Derived.Test.YtjdceafkcakbjaaFMax
import Derived.Test.YtjdceafkcakbjaaFCap
namespace Go.Proofs.Ytjdceafkcakbjaa
open Go.RowKit
theorem ResB.far {w : World} {m2 n gr gA gF : Nat} {T R B X F : Nat → Int} (h : ResB w m2 n gr gA gF T R B X F) {q : Addr} (h1 : gr ≠ q.block) (h2 : gA ≠ q.block) (h3 : gF ≠ q.block) (u : Value) : ResB (w.setCell q u) m2 n gr gA gF T R B X F :=
  ⟨(Below.heap_setCell w q u gr h1).trans h.box, h.arcs.setOther h2 u, h.first.setOther h3 u, h.n1, h.n2, h.n3⟩
theorem rest0_flowing (N : Net) (ok : N.Ok) (s t : Nat) : Flowing N s t (rest0 N.cp) := by
  have h1 : ∀ i, rest0 N.cp (2 * i + 1) = 0 := fun i => by unfold rest0; rw [if_neg (by omega)]
  have h0 : ∀ i, rest0 N.cp (2 * i) = N.cp i := fun i => by unfold rest0; rw [if_pos (by omega), show 2 * i / 2 = i by omega]
  refine ⟨⟨fun k hk => ?_, fun i _ => by rw [h0, h1]; omega⟩, fun v _ _ _ => ?_⟩
  · unfold rest0; split
    · exact ok.c0 _ (by omega)
    · exact Int.le_refl _
  · unfold Net.ex Net.bal
    refine Eq.trans ?_ (sumTo_zero N.m)
    refine sumTo_congr fun i _ => ?_
    show (if N.fr i = v then rest0 N.cp (2 * i + 1) else 0) - (if N.tt i = v then rest0 N.cp (2 * i + 1) else 0) = 0
    rw [h1]; simp
/- the flow while it is reckoned -/
def fl (N : Net) (R : Nat → Int) (K : Nat) : Nat → Int := fun j => if j < K then flowOf R j else N.cp j
theorem fl_step (N : Net) (R : Nat → Int) (K : Nat) (h : R (2 * K) + R (2 * K + 1) = N.cp K) : ∀ j, up (fl N R K) K (fl N R K K - R (2 * K)) j = fl N R (K + 1) j := fun j => by
  unfold up fl flowOf
  by_cases e : j = K
  · rw [if_pos e, if_neg (Nat.lt_irrefl K), if_pos (show j < K + 1 by omega), e]; omega
  · rw [if_neg e]
    by_cases h : j < K
    · rw [if_pos h, if_pos (show j < K + 1 by omega)]
    · rw [if_neg h, if_neg (show ¬ j < K + 1 by omega)]
/- what is below a net's box -/
structure NetB (W : World) (p n m c : Nat) (A : Option Addr) (E : Nat → EdgeD) : Prop where
  a : NetAt W p n A m c
  e : Edges W A m E
  v : VNet n m E
theorem NetB.below {W u : World} {p n m c : Nat} {A : Option Addr} {E : Nat → EdgeD} (h : NetB W p n m c A E) (b : Below W.heap.size W u) : NetB u p n m c A E := ⟨h.a.below b, h.e.below b, h.v⟩
def MaxOk (w : World) (N : Net) (s t : Nat) (e : Ending) (w' : World) : Prop :=
  ∃ g R, e = .returned (.tuple #[.int .i64 (N.bal (flowOf R) s), .slice (some ⟨g, 0, none⟩) N.m N.m, .int .i64 0]) ∧ w'.rowIs g 3 N.m (ivals (flowOf R)) ∧ N.Done s t R ∧ w.heap.size ≤ g ∧ Below w.heap.size w w'
theorem max_err (N s t er : Int) (A : Option Addr) (m c : Nat) (E : Nat → EdgeD) (w : World) (h : Edges w A m E) (hx : (¬ VNet N m E ∧ er = 1) ∨ (VNet N m E ∧ ¬ Pair N s t ∧ er = 2)) :
    Calls Try.prog 16 #[.agg #[.int .i64 N, .slice A m c], .int .i64 s, .int .i64 t] w fun e w' => e = .returned (.tuple #[.int .i64 0, .slice none 0 0, .int .i64 er]) ∧ Below w.heap.size w w' := by
  have b0 := below_new w (.cells #[.int .i64 N, .slice A m c] 24)
  have n0 := netAt_new w N A m c
  have c0 := n0.c0
  have c1 := n0.c1
  have hE : Hid (∀ u, Below w.heap.size w u → Calls Try.prog 39 #[.agg #[.int .i64 N, .slice A m c], .int .i64 s, .int .i64 t] u fun e w' => e = .returned (.int .i64 er) ∧ Below u.heap.size u w') := fun u hu => by
    rcases hx with ⟨h1, rfl⟩ | ⟨h1, h2, rfl⟩
    · exact argErr_arg N s t A m c E u (h.below hu) h1
    · exact argErr_range N s t A m c E u (h.below hu) h1 h2
  have her : er = 1 ∨ er = 2 := by rcases hx with ⟨_, h⟩ | ⟨_, _, h⟩ <;> omega
  clear hx h
  have q : (er != 0) = true := bne_iff_ne.2 (by omega)
  go_enter Try.func16, Try.ntmps16
  go_wp2_with fail
  refine (hE.out _ b0).mono ?_; rintro e w1 ⟨rfl, b1⟩
  go_wp2_with fail
  go_ret3
  exact ⟨rfl, below_next b0 b1⟩
set_option maxRecDepth 100000 in
set_option maxHeartbeats 8000000 in
theorem max_ok (n m c s t : Nat) (A : Option Addr) (E : Nat → EdgeD) (w : World) (h : Edges w A m E) (hv : VNet n m E) (hs : s < n) (ht : t < n) (hst : s ≠ t) :
    Calls Try.prog 16 #[.agg #[.int .i64 n, .slice A m c], .int .i64 s, .int .i64 t] w (MaxOk w (netOf n m E) s t) := by
  have b0 := below_new w (.cells #[.int .i64 n, .slice A m c] 24)
  have X0 : NetB (w.alloc (.cells #[.int .i64 n, .slice A m c] 24)) w.heap.size n m c A E := ⟨netAt_new w n A m c, h.below b0, hv⟩
  have hm2 := hv.2.2.1
  have hp : Pair n s t := ⟨by omega, by omega, by omega⟩
  have HV := Lib.hid hv
  have HE0 := Lib.hid h
  clear h hv
  have c0 := X0.a.c0
  have c1 := X0.a.c1
  have hE := Lib.hid (argErr_ok n s t A m c E _ X0.e X0.v hp)
  go_enter Try.func16, Try.ntmps16
  go_wp2_with fail
  refine hE.out.mono ?_; rintro e w1 ⟨rfl, b1⟩
  have X1 := X0.below b1
  have B1 := below_next b0 b1
  clear c0 c1 hE X0 b0 b1 hp
  have c0 := X1.a.c0
  have c1 := X1.a.c1
  have hcap : Hid (∀ u, Below w1.heap.size w1 u → Calls Try.prog 47 #[.agg #[.int .i64 n, .slice A m c]] u (RowEnd u m (netOf n m E).cp)) := fun u hu => caps_any n A m c E u (X1.below hu).e hm2
  have hnew : Hid (∀ u gL, Below w1.heap.size w1 u → u.rowIs gL 3 m (ivals (netOf n m E).cp) → Calls Try.prog 46 #[.agg #[.int .i64 n, .slice A m c], .slice (some ⟨gL, 0, none⟩) m m] u (NewEnd u (netOf n m E) (netOf n m E).cp)) := fun u gL hu hr => new_any n m c A E _ m _ u (X1.below hu).e HV.out (Row.ints hr)
  have hss : Hid (∀ w', Below w1.heap.size w1 w' → Below w1.heap.size w1 w' ∧ w'.cell? ⟨w.heap.size, 0, none⟩ = some (.int .i64 n) ∧ w'.cell? ⟨w.heap.size, 1, none⟩ = some (.slice A m c)) := fun w' b => ⟨b, (X1.below b).a.c0, (X1.below b).a.c1⟩
  go_upto_region 4 with fail
  go_region_held3 (fun w' => Below w1.heap.size w1 w' ∧ w'.cell? ⟨w.heap.size, 0, none⟩ = some (.int .i64 n) ∧ w'.cell? ⟨w.heap.size, 1, none⟩ = some (.slice A m c))
    (first
      | exact hss.out _ (Below.refl _ _).drew
      | exact hss.out _ bc6
      | exact hss.out _ bc5)
    (first
      | (go_at_call 47; (with_reducible refine (hcap.out _ (And.left (by assumption))).mono ?_); rintro e w5 ⟨gL, rfl, hrL, hgL, b5⟩; have bc5 := below_next (And.left (by assumption)) b5)
      | (go_at_call 46; (with_reducible refine (hnew.out _ gL bc5 hrL).mono ?_); rintro e w6 ⟨gr, gA, gF, rfl, hres, hgr, hgA, hgF, b6⟩; have bc6 := below_next bc5 b6))
  have hok := Lib.hid HV.out.ok
  have hmx := Lib.hid (maximize_any w1.heap.size (netOf n m E) gr gA gF s t _ w6 hres hok.out hs ht hst (rest0_flowing _ hok.out s t) (Nat.le_trans bc5.size hgA))
  have hgA6 := (ResB.arcs hres).lt
  have hgF6 := (ResB.first hres).lt
  have hgr6 := lt_of_block (ResB.box hres)
  clear hres hrL hgL b5 b6 hnew c0 c1 hss
  go_wp2_with fail
  refine hmx.out.mono ?_; rintro e w7 ⟨R, rfl, hres, hdone, b7⟩
  have HD := Lib.hid hdone
  have bc7 := bc6.trans b7
  have X7 := X1.below bc7
  have hgA7 := (ResB.arcs hres).lt
  have hgF7 := (ResB.first hres).lt
  have hgr7 := lt_of_block (ResB.box hres)
  clear hmx hdone b7
  have c0 := X7.a.c0
  have c1 := X7.a.c1
  go_wp2_with fail
  refine (hcap.out _ bc7).mono ?_; rintro e w8 ⟨gC, rfl, hrC, hgC, b8⟩
  have hR8 := ResB.below hres b8
  have X8 := X7.below b8
  have B8 := below_next B1 (below_next bc7 b8)
  have hC0 : w8.rowIs gC 3 m (ivals (fl (netOf n m E) R 0)) := hrC.congr fun j _ => by unfold ivals fl; rw [if_neg (Nat.not_lt_zero _)]
  have hw17 : w.heap.size < w7.heap.size := X7.a.lt
  clear hcap c0 c1 hres hrC X7
  go_wp2_with fail
  go_loopw [11, 31] (fun _ i wr => ∃ K : Nat, K ≤ m ∧ i = .int .i64 K ∧ wr.rowIs gC 3 m (ivals (fl (netOf n m E) R K)) ∧ Rsd wr (netOf n m E) gr gA gF R ∧ Below w7.heap.size w8 wr) (fun _ i _ => m - (intOf i).toNat)
  case atStart => exact ⟨0, by omega, rfl, hC0, hR8, Below.refl _ _⟩
  case round =>
    clear hC0 hR8
    obtain ⟨K, hK, rfl, hC, hR, hB⟩ := hrel
    by_cases hlt : K < m
    · have z0 := hC.cell hlt
      replace z0 : wr.cell? ⟨gC, K, none⟩ = some (.int .i64 (fl (netOf n m E) R K K)) := z0
      have z1 := hC.frozen K
      have r0 : wr.cell? ⟨gr, 0, none⟩ = some (.slice (some ⟨gA, 0, none⟩) (2 * m) (2 * m)) := ResB.b0 hR
      have kr := ResB.r hR (k := 2 * K) (by show 2 * K < 2 * m; omega)
      have hpr := HD.out.rest.pr K hlt
      have hr0 := HD.out.rest.r0 (2 * K) (by show 2 * K < 2 * m; omega)
      have hcc : 0 ≤ (E K).c ∧ (E K).c ≤ 1125899906842624 := (HV.out.2.2.2 K hlt).2
      have hr1 := HD.out.rest.r0 (2 * K + 1) (by show 2 * K + 1 < 2 * m; omega)
      replace hpr : R (2 * K) + R (2 * K + 1) = (E K).c := hpr
      have hfl : fl (netOf n m E) R K K = (E K).c := by unfold fl; rw [if_neg (Nat.lt_irrefl K)]; rfl
      have hstep := Lib.hid (fl_step (netOf n m E) R K hpr)
      have hw1 : IntKind.i64.wrap (fl (netOf n m E) R K K - R (2 * K)) = fl (netOf n m E) R K K - R (2 * K) := IntWalk.i64_in _ (by omega)
      have hi0 : (2 * (K : Int)).toNat = 2 * K := by omega
      have hi1 : 2 * (K : Int) < 2 * (m : Int) := by omega
      have hi3 : 2 * K < 2 * m := by omega
      have hi4 : ((2 * K : Nat) : Int) < ((2 * m : Nat) : Int) := by omega
      have hi2 : 0 ≤ 2 * (K : Int) := by omega
      have hwrap : IntKind.i64.wrap ((K : Int) + 1) = (K : Int) + 1 := IntWalk.i64_in _ (by omega)
      clear hfl hpr hr0 hr1 hcc
      have hC2 : (wr.drew.setCell ⟨gC, K, none⟩ (.int .i64 (fl (netOf n m E) R K K - R (2 * K)))).rowIs gC 3 m (ivals (fl (netOf n m E) R (K + 1))) := ivals_set (w := wr.drew) hC hstep.out
      have hR2 := ResB.far (ResB.drew hR) (q := ⟨gC, K, none⟩) (by show gr ≠ gC; omega) (by show gA ≠ gC; omega) (by show gF ≠ gC; omega) (.int .i64 (fl (netOf n m E) R K K - R (2 * K)))
      have B2 := hB.drew.setCell (p := ⟨gC, K, none⟩) (by exact hgC) (.int .i64 (fl (netOf n m E) R K K - R (2 * K)))
      have HC2 := Lib.hid hC2
      have HR2 := Lib.hid hR2
      clear hC2 hR2 hC hR hB
      have z2 : wr.drew.cell? ⟨gC, K, none⟩ = _ := z0
      have z3 : wr.drew.frozen? ⟨gC, K, none⟩ = false := z1
      generalize R (2 * K) = rk at *
      generalize fl (netOf n m E) R K K = fk at *
      go_upto_region 10 with fail
      go_still_tail 15, (by kernel_rfl)
      still_call (flip_same (forward_any K _ (by omega)))
      repeat still_step
      refine wpStill_nil ?_
      change wpList _ _ _ _ _ wr.drew
      generalize wr.drew = W3 at *
      generalize hW4 : W3.setCell ⟨gC, K, none⟩ (.int .i64 (fk - rk)) = W4 at *
      go_wp2_with fail
      go_roundw
      case rel => exact ⟨K + 1, by omega, by go_num, HC2.out, HR2.out, B2⟩
      case measure => simp [intOf]; omega
    · obtain rfl : K = m := by omega
      have hfin := hC.congr (g := ivals (flowOf R)) (fun j hj => by unfold ivals fl; rw [if_pos hj])
      have hfl := HD.out.flow
      have hA9 : NetAt wr w.heap.size n A K c := (hB.block _ hw17).trans X8.a
      have hB9 : Below w.heap.size w wr := B8.trans (hB.mono (Nat.le_of_lt hw17))
      have c0 := hA9.c0
      have c1 := hA9.c1
      have hE9 := HE0.out.below hB9
      have hval := Lib.hid (value_any n K c K s A (some ⟨gC, 0, none⟩) E (flowOf R) wr hE9 HV.out (Row.ints hfin) (fun i hi => ⟨hfl.r0 i hi, Int.le_trans (hfl.r1 i hi) (HV.out.2.2.2 i hi).2.2⟩) hs)
      clear hC hR hfl hE9
      go_wp2_with fail
      refine hval.out.mono ?_; rintro e w9 ⟨rfl, b9⟩
      go_wp2_with fail
      go_ret3
      exact ⟨gC, R, rfl, row_below hfin b9, HD.out, by omega, below_next hB9 b9⟩
end Go.Proofs.Ytjdceafkcakbjaa
