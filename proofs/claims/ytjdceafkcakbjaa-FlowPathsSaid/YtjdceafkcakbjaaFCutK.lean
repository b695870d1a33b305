/- The contract of flow.Cut. -/
import Derived.Test.YtjdceafkcakbjaaFCut
namespace Go.Proofs.Ytjdceafkcakbjaa
open Go.RowKit
theorem grown_below3 {w0 w w1 : World} {B base : Nat} {e : TypeId} {size : Nat} {v : Value} {n : Nat} {xs : List Value} (h : Below B w0 w) (hown : w.ownsRow base e size v n xs) (hb : B ≤ base) (hB : B ≤ w.heap.size) (hg : w.grownBy w1 v.ownBlock) : Below B w0 w1 :=
  h.grown hg hB (fun k hk => Nat.le_trans hb (hown.lt k hk).1)
set_option maxRecDepth 100000 in
set_option maxHeartbeats 8000000 in
theorem cut_ok (n m c s t : Nat) (A : Option Addr) (E : Nat → EdgeD) (w : World) (h : Edges w A m E) (hv : VNet n m E) (hs : s < n) (ht : t < n) (hst : s ≠ t) :
    Calls Try.prog 21 #[.agg #[.int .i64 n, .slice A m c], .int .i64 s, .int .i64 t] w (CutOk w n (netOf n m E) s t) := by
  have b0 := (below_new w (.cells #[.int .i64 n, .slice A m c] 24)).alloc (below_new w _).size (.cells #[.int .i64 0, .slice none 0 0] 28)
  have X0 : NetB ((w.alloc (.cells #[.int .i64 n, .slice A m c] 24)).alloc (.cells #[.int .i64 0, .slice none 0 0] 28)) w.heap.size n m c A E := ⟨(netAt_new w n A m c).alloc _, h.below b0, hv⟩
  have s0 := setAt_new (w.alloc (.cells #[.int .i64 n, .slice A m c] 24)) 0 none 0 0
  rw [show (w.alloc (.cells #[.int .i64 n, .slice A m c] 24)).heap.size = w.heap.size + 1 by simp] at s0
  have hm2 := hv.2.2.1
  have hn1 := hv.1
  have hn5 := hv.2.1
  have hp : Pair n s t := ⟨by omega, by omega, by omega⟩
  have HV := Lib.hid hv
  have HE0 := Lib.hid h
  have hok := Lib.hid hv.ok
  clear h hv
  have c0 := X0.a.c0
  have c1 := X0.a.c1
  have hE := Lib.hid (argErr_ok n s t A m c E _ X0.e X0.v hp)
  go_enter Try.func21, Try.ntmps21
  go_wp2_with fail
  refine hE.out.mono ?_; rintro e w1 ⟨rfl, b1⟩
  have X1 := X0.below b1
  have s1 := s0.below b1
  have B1 := below_next b0 b1
  clear c0 c1 hE X0 b0 b1 hp s0
  have c0 := X1.a.c0
  have c1 := X1.a.c1
  have hcap : Hid (∀ u, Below w1.heap.size w1 u → Calls Try.prog 47 #[.agg #[.int .i64 n, .slice A m c]] u (RowEnd u m (netOf n m E).cp)) := fun u hu => caps_any n A m c E u (X1.below hu).e hm2
  have hnew : Hid (∀ u gL, Below w1.heap.size w1 u → u.rowIs gL 3 m (ivals (netOf n m E).cp) → Calls Try.prog 46 #[.agg #[.int .i64 n, .slice A m c], .slice (some ⟨gL, 0, none⟩) m m] u (NewEnd u (netOf n m E) (netOf n m E).cp)) := fun u gL hu hr => new_any n m c A E _ m _ u (X1.below hu).e HV.out (Row.ints hr)
  have hss : Hid (∀ w', Below w1.heap.size w1 w' → Below w1.heap.size w1 w' ∧ w'.cell? ⟨w.heap.size, 0, none⟩ = some (.int .i64 n) ∧ w'.cell? ⟨w.heap.size, 1, none⟩ = some (.slice A m c)) := fun w' b => ⟨b, (X1.below b).a.c0, (X1.below b).a.c1⟩
  go_upto_region 4 with fail
  go_region_held3 (fun w' => Below w1.heap.size w1 w' ∧ w'.cell? ⟨w.heap.size, 0, none⟩ = some (.int .i64 n) ∧ w'.cell? ⟨w.heap.size, 1, none⟩ = some (.slice A m c))
    (first
      | exact hss.out _ (Below.refl _ _).drew
      | exact hss.out _ bc6
      | exact hss.out _ bc5)
    (first
      | (go_at_call 47; (with_reducible refine (hcap.out _ (And.left (by assumption))).mono ?_); rintro e w5 ⟨gL, rfl, hrL, hgL, b5⟩; have bc5 := below_next (And.left (by assumption)) b5)
      | (go_at_call 46; (with_reducible refine (hnew.out _ gL bc5 hrL).mono ?_); rintro e w6 ⟨gr, gA, gF, rfl, hres, hgr, hgA, hgF, b6⟩; have bc6 := below_next bc5 b6))
  have hmx := Lib.hid (maximize_any w1.heap.size (netOf n m E) gr gA gF s t _ w6 hres hok.out hs ht hst (rest0_flowing _ hok.out s t) (Nat.le_trans bc5.size hgA))
  clear hres hrL hgL b5 b6 hnew c0 c1 hss hcap
  go_wp2_with fail
  refine hmx.out.mono ?_; rintro e w7 ⟨R, rfl, hres, hdone, b7⟩
  have HD := Lib.hid hdone
  have bc7 := bc6.trans b7
  have hds := Lib.hid (dist_any (netOf n m E) gr gA gF s R w7 hres hok.out hs)
  clear hmx hdone b7 hres bc6 bc5 hgr hgA hgF
  go_wp2_with fail
  refine hds.out.mono ?_; rintro e w8 ⟨gD, d, rfl, hrD, hdst, hgD, b8⟩
  have bc8 := below_next bc7 b8
  have hlD := hrD.lt
  have hsz8 : w1.heap.size ≤ w8.heap.size := bc8.size
  have HDST := Lib.hid hdst
  replace hrD : w8.rowIs gD 3 n (ivals d) := hrD
  clear hds b8 bc7 hdst
  go_wp2_with fail
  go_loopw [11, 12, 13, 34] (fun x _ _ i wr => ∃ (K : Nat) (v : Value), K ≤ n ∧ i = .int .i64 K ∧ v = x ∧ wr.ownsRow w8.heap.size 3 1 v (rch d K).length (vals (rch d K)) ∧ Below w8.heap.size w8 wr) (fun _ _ _ i _ => n - (intOf i).toNat)
  case atStart => exact ⟨0, _, by omega, rfl, rfl, World.ownsRow_nil _ _ _ _, Below.refl _ _⟩
  case round =>
    obtain ⟨K, v, hK, rfl, rfl, hown, hB⟩ := hrel
    by_cases hlt : K < n
    · have z0 := (row_below hrD hB).cell hlt
      replace z0 : wr.cell? ⟨gD, K, none⟩ = some (.int .i64 (d K)) := z0
      have hwrap : IntKind.i64.wrap ((K : Int) + 1) = (K : Int) + 1 := IntWalk.i64_in _ (by omega)
      by_cases hdk : d K = -1
      · have q : (d K != -1) = false := by rw [hdk]; rfl
        have hst2 := Lib.hid (rch_no hdk)
        generalize d K = dk at *
        go_wp2_with fail
        go_roundw
        case rel => exact ⟨K + 1, v, by omega, by go_num, rfl, by rw [hst2.out]; exact hown, hB⟩
        case measure => simp [intOf]; omega
      · have q : (d K != -1) = true := bne_iff_ne.2 hdk
        have hst2 := Lib.hid (rch_yes hdk)
        have hlen := rch_len d K
        generalize hl : rch d K = l at *
        clear hl hdk
        generalize d K = dk at *
        have bA := below_new wr (.cells #[.int .i64 (K : Int)] 3)
        have hownA := own_below hown bA
        have BA := below_next hB bA
        go_wp2_with (at_builtin; refine append_nat rfl (.tmp 41) (.tmp 43) rfl w8.heap.size v l K K _ rfl (hown.alloc _) wr.heap.size rfl (heap_alloc_new _ _) rfl (by omega) (by have := hB.size; simp; omega) ?_)
        intro g cap w9 hown9 hg9 _
        have B9 := grown_below3 BA hownA (Nat.le_refl _) BA.size hg9
        clear hown hB bA hownA BA z0
        go_wp2_with fail
        go_roundw
        case rel => exact ⟨K + 1, _, by omega, by go_num, rfl, by rw [hst2.out, List.length_append, List.length_singleton]; exact hown9, B9⟩
        case measure => simp [intOf]; omega
    · obtain rfl : K = n := by omega
      have hlen := rch_len d K
      have hmem : Hid (∀ x, x ∈ rch d K ↔ x < K ∧ (netOf K m E).Reach R s x) := fun x => by
        rw [rch_mem]
        constructor
        · rintro ⟨h1, h2⟩; exact ⟨h1, (HDST.out.reach hok.out h1).1 h2⟩
        · rintro ⟨h1, h2⟩; exact ⟨h1, (HDST.out.reach hok.out h1).2 h2⟩
      have hlt9 : Hid (∀ x, x ∈ rch d K → x < K) := fun x hx => (rch_mem.1 hx).1
      generalize hl : rch d K = l at *
      have X9 := X1.below (below_next bc8 hB)
      have s9 := s1.below (below_next bc8 hB)
      have B9 := below_next B1 (below_next bc8 hB)
      have c0 := X9.a.c0
      have hof := Lib.hid (of_list K v w8.heap.size l wr (by omega) hown (by omega) hlt9.out)
      clear hl hown hB hrD
      go_wp2_with fail
      refine hof.out.mono ?_; rintro e w10 ⟨gW, rfl, hgW, hrW, b10⟩
      have X10 := X9.below b10
      have s10 := s9.below b10
      have B10 := below_next B9 b10
      have r0 := s10.c0
      have r1 := s10.c1
      have f0 := s10.free 0
      have f1 := s10.free 1
      have s11 := setAt_put (N' := (K : Int)) (A' := some ⟨gW, 0, none⟩) (l' := (K + 63) / 64) (c' := (K + 63) / 64) s10
      have hne : gW ≠ w.heap.size + 1 := fun e => by have := s9.lt; omega
      have hrW11 := (hrW.setOther (a := ⟨w.heap.size + 1, 0, none⟩) (by exact hne) (.int .i64 (K : Int))).setOther (a := ⟨w.heap.size + 1, 1, none⟩) (by exact hne) (.slice (some ⟨gW, 0, none⟩) ((K + 63) / 64) ((K + 63) / 64))
      have B11 := (B10.setCell (p := ⟨w.heap.size + 1, 0, none⟩) (by show w.heap.size ≤ w.heap.size + 1; omega) (.int .i64 (K : Int))).setCell (p := ⟨w.heap.size + 1, 1, none⟩) (by show w.heap.size ≤ w.heap.size + 1; omega) (.slice (some ⟨gW, 0, none⟩) ((K + 63) / 64) ((K + 63) / 64))
      have n11 := (X10.a.far (q := ⟨w.heap.size + 1, 0, none⟩) (by show w.heap.size ≠ w.heap.size + 1; omega) (.int .i64 (K : Int))).far (q := ⟨w.heap.size + 1, 1, none⟩) (by show w.heap.size ≠ w.heap.size + 1; omega) (.slice (some ⟨gW, 0, none⟩) ((K + 63) / 64) ((K + 63) / 64))
      have hwsz : w.heap.size ≤ wr.heap.size := B9.size
      clear hof c0 X9 s9 B9 X10 s10 B10 b10 hrW
      go_upto_region 14 with fail
      generalize hMW : (K + 63) / 64 = mw at *
      have HMW := Lib.hid hMW
      clear hMW
      generalize hV : (w10.setCell ⟨w.heap.size + 1, 0, none⟩ (.int .i64 (K : Int))).setCell ⟨w.heap.size + 1, 1, none⟩ (.slice (some ⟨gW, 0, none⟩) mw mw) = V at *
      clear hV r0 r1 f0 f1
      have hcy : Hid (∀ u, Below V.heap.size V u → Calls Try.prog 43 #[.agg #[.int .i64 K, .slice A m c], .agg #[.int .i64 K, .slice (some ⟨gW, 0, none⟩) mw mw]] u fun e w' => e = .returned (.int .i64 ((netOf K m E).capS (bt (setF l)))) ∧ Below u.heap.size u w') := fun u hu =>
        capacity_any K m c A E _ mw mw (setF l) u (HE0.out.below (below_next B11 hu)) HV.out (row_wds (row_below hrW11 hu) (setF_u64 l mw)) (by have := setF_vld (n := K) (l := l) (by omega) hlt9.out; rw [HMW.out] at this; exact this)
      have c0 := n11.c0
      have c1 := n11.c1
      have r0 := s11.c0
      have r1 := s11.c1
      have f0 := s11.free 0
      have f1 := s11.free 1
      have hss : Hid (∀ w', Below V.heap.size V w' → Below V.heap.size V w' ∧ w'.cell? ⟨w.heap.size, 0, none⟩ = some (.int .i64 K) ∧ w'.cell? ⟨w.heap.size, 1, none⟩ = some (.slice A m c) ∧ w'.cell? ⟨w.heap.size + 1, 0, none⟩ = some (.int .i64 K) ∧ w'.cell? ⟨w.heap.size + 1, 1, none⟩ = some (.slice (some ⟨gW, 0, none⟩) mw mw)) := fun w' b => ⟨b, (n11.below b).c0, (n11.below b).c1, (s11.below b).c0, (s11.below b).c1⟩
      go_region_with (go_at_call 43; (with_reducible refine (hcy.out _ (Below.refl _ _).drew).mono ?_); rintro e w12 ⟨rfl, b12⟩; have bc12 := below_next (Below.refl _ V).drew b12; have c0' := (n11.below bc12).c0; have c1' := (n11.below bc12).c1; have r0' := (s11.below bc12).c0; have r1' := (s11.below bc12).c1; have f0' := (s11.below bc12).free 0; have f1' := (s11.below bc12).free 1)
      all_goals
        have s13 := setAt_put (N' := (K : Int)) (A' := some ⟨gW, 0, none⟩) (l' := mw) (c' := mw) (s11.below bc12)
        have k0 := s13.c0
        have k1 := s13.c1
        have hrW13 := ((row_below hrW11 bc12).setOther (a := ⟨w.heap.size + 1, 0, none⟩) (by exact hne) (.int .i64 (K : Int))).setOther (a := ⟨w.heap.size + 1, 1, none⟩) (by exact hne) (.slice (some ⟨gW, 0, none⟩) mw mw)
        have B13 := ((below_next B11 bc12).setCell (p := ⟨w.heap.size + 1, 0, none⟩) (by show w.heap.size ≤ w.heap.size + 1; omega) (.int .i64 (K : Int))).setCell (p := ⟨w.heap.size + 1, 1, none⟩) (by show w.heap.size ≤ w.heap.size + 1; omega) (.slice (some ⟨gW, 0, none⟩) mw mw)
        have hgW2 : w.heap.size ≤ gW := by omega
        clear r0' r1' f0' f1' c0' c1'
        simp [Act.put]
        go_wp2_with fail
        refine bodyPost_ret (v := .tuple #[.agg #[.int .i64 K, .slice (some ⟨gW, 0, none⟩) mw mw], .int .i64 ((netOf K m E).capS (bt (setF l))), .int .i64 0]) (by simp [results, Try.results21, go_sem, k0, k1]) rfl ?_
        refine ⟨gW, l, R, by rw [HMW.out], ?_, HD.out, hmem.out, hgW2, ?_⟩
        · rw [HMW.out]; first | exact hrW13 | exact hrW13.drew
        · first | exact B13 | exact B13.drew
end Go.Proofs.Ytjdceafkcakbjaa
