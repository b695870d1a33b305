/- The contract of flow.Closure. -/
import Derived.Test.YtjdceafkcakbjaaFCM
namespace Go.Proofs.Ytjdceafkcakbjaa
open Go.RowKit
def ClOk (w : World) (k q : Nat) (z : Nat → Int) (y : Nat → Int × Int) (e : Ending) (w' : World) : Prop :=
  ∃ g l, e = .returned (.tuple #[.agg #[.int .i64 k, .slice (some ⟨g, 0, none⟩) ((k + 63) / 64) ((k + 63) / 64)], .int .i64 (wgt z (bt (setF l)) k), .int .i64 0]) ∧ w'.rowIs g 61 ((k + 63) / 64) (fun j => .int .u64 (setF l j : Nat)) ∧
    (∀ v, v ∈ l → v < k) ∧ Best k q z y (bt (setF l)) ∧ w.heap.size ≤ g ∧ Below w.heap.size w w'
theorem clo_err (k q c d : Nat) (A B : Option Addr) (er : Int) (z : Nat → Int) (y : Nat → Int × Int) (w : World) (hA : Ints w A k z) (hB : Prs w B q y)
    (hx : ((500 < k ∨ 1000 < q) ∧ er = 5) ∨ (k ≤ 500 ∧ q ≤ 1000 ∧ ¬ CArgs k q z y ∧ er = 2)) :
    Calls Try.prog 30 #[.slice A k c, .slice B q d] w fun e w' => e = .returned (.tuple #[.agg #[.int .i64 0, .slice none 0 0], .int .i64 0, .int .i64 er]) ∧ Below w.heap.size w w' := by
  have b0 := below_new w (.cells #[.int .i64 0, .slice none 0 0] 28)
  have s0 := setAt_new w 0 none 0 0
  have hE : Hid (∀ u, Below w.heap.size w u → Calls Try.prog 58 #[.slice A k c, .slice B q d] u fun e w' => e = .returned (.int .i64 er) ∧ Below u.heap.size u w') := fun u hu => by
    rcases hx with ⟨h1, rfl⟩ | ⟨h1, h2, h3, rfl⟩
    · exact cerr_full A B k q c d u h1
    · exact cerr_range A B k q c d z y u (hA.below hu) (hB.below hu) h1 h2 h3
  have her : er = 5 ∨ er = 2 := by rcases hx with ⟨_, h⟩ | ⟨_, _, _, h⟩ <;> omega
  clear hx hA hB
  have q : (er != 0) = true := bne_iff_ne.2 (by omega)
  go_enter Try.func30, Try.ntmps30
  go_wp2_with fail
  refine (hE.out _ b0).mono ?_; rintro e w1 ⟨rfl, b1⟩
  have s1 := s0.below b1
  have r0 := s1.c0
  have r1 := s1.c1
  have f0 := s1.free 0
  have f1 := s1.free 1
  have B1 := below_next b0 b1
  go_wp2_with fail
  have s2 := setAt_put (N' := 0) (A' := none) (l' := 0) (c' := 0) s1
  have r0' := s2.c0
  have r1' := s2.c1
  refine bodyPost_ret (v := .tuple #[.agg #[.int .i64 0, .slice none 0 0], .int .i64 0, .int .i64 er]) (by simp [results, Try.results30, go_sem, r0', r1']) rfl ?_
  exact ⟨rfl, (B1.setCell (by exact Nat.le_refl _) _).setCell (by exact Nat.le_refl _) _⟩
/- the members below K -/
def mbr (T : Nat → Bool) (K : Nat) : List Nat := (List.range K).filter T
theorem mbr_yes {T : Nat → Bool} {K : Nat} (h : T K = true) : mbr T (K + 1) = mbr T K ++ [K] := by
  unfold mbr; rw [List.range_succ, List.filter_append]; simp [h]
theorem mbr_no {T : Nat → Bool} {K : Nat} (h : T K = false) : mbr T (K + 1) = mbr T K := by
  unfold mbr; rw [List.range_succ, List.filter_append]; simp [h]
theorem mbr_len (T : Nat → Bool) (K : Nat) : (mbr T K).length ≤ K := by
  unfold mbr
  have := List.length_filter_le T (List.range K)
  simpa using this
theorem mbr_mem {T : Nat → Bool} {K v : Nat} : v ∈ mbr T K ↔ v < K ∧ T v = true := by unfold mbr; simp
theorem wgt_bound {z : Nat → Int} {S : Nat → Bool} {K : Nat} (h : ∀ i, i < K → WOk z i) (hK : K ≤ 500) : -536870912000 ≤ wgt z S K ∧ wgt z S K ≤ 536870912000 := by
  have h1 : wgt z S K ≤ (K : Int) * 1073741824 := sumTo_bound fun i hi => by
    have := h i hi
    unfold WOk at this
    show (if S i = true then z i else 0) ≤ _
    split <;> omega
  have h2 : sumTo K (fun _ => 0) - wgt z S K ≤ (K : Int) * 1073741824 := by
    unfold wgt
    rw [← sumTo_sub]
    refine sumTo_bound fun i hi => ?_
    have := h i hi
    unfold WOk at this
    show 0 - (if S i = true then z i else 0) ≤ _
    split <;> omega
  rw [sumTo_zero] at h2
  omega
theorem Best.congr {k q : Nat} {z : Nat → Int} {y : Nat → Int × Int} {S T : Nat → Bool} (h : Best k q z y S) (hy : ∀ j, j < q → NOk y k j) (e : ∀ v, v < k → S v = T v) : Best k q z y T := by
  refine ⟨fun j hj h1 => ?_, fun C hC => ?_⟩
  · have h2 := hy j hj
    unfold NOk at h2
    rw [← e _ (by omega)] at h1 ⊢
    exact h.cl j hj h1
  · obtain ⟨e1, e2⟩ := h.best C hC
    rw [wgt_congr e] at e1 e2
    exact ⟨e1, fun he v hv h1 => e2 he v hv (by rw [e v hv]; exact h1)⟩
set_option maxRecDepth 100000 in
set_option maxHeartbeats 8000000 in
theorem clo_ok (k q c d : Nat) (A B : Option Addr) (z : Nat → Int) (y : Nat → Int × Int) (w : World) (hA : Ints w A k z) (hB : Prs w B q y) (h : CArgs k q z y) :
    Calls Try.prog 30 #[.slice A k c, .slice B q d] w (ClOk w k q z y) := by
  have b0 := below_new w (.cells #[.int .i64 0, .slice none 0 0] 28)
  have s0 := setAt_new w 0 none 0 0
  have HA := Lib.hid hA; clear hA
  have HB := Lib.hid hB; clear hB
  have hk5 := h.k5
  have HC := Lib.hid h; clear h
  have hE := Lib.hid (cerr_ok A B k q c d z y _ (HA.out.below b0) (HB.out.below b0) HC.out)
  have hw1 : IntKind.i64.wrap ((k : Int) + 1) = (k : Int) + 1 := IntWalk.i64_in _ (by omega)
  go_enter Try.func30, Try.ntmps30
  go_wp2_with fail
  refine hE.out.mono ?_; rintro e w1 ⟨rfl, b1⟩
  have s1 := s0.below b1
  have B1 := below_next b0 b1
  have hnt : Hid (Calls Try.prog 59 #[.slice A k c, .slice B q d, .int .i64 k, .int .i64 ((k : Int) + 1)] w1 fun e w' => ∃ A' c', e = .returned (.agg #[.int .i64 ((k : Int) + 2), .slice A' (cL k q z y).length c']) ∧ Edges w' A' (cL k q z y).length (eE (cL k q z y)) ∧ Below w1.heap.size w1 w') :=
    cnet_any k q c d A B z y k ((k + 1 : Nat) : Int) w1 (HA.out.below B1) (HB.out.below B1) hk5 HC.out.q1 HC.out.z
  clear hE b0 b1 s0
  go_wp2_with fail
  refine hnt.out.mono ?_; rintro e w2 ⟨A', c', rfl, hEd, b2⟩
  have s2 := s1.below b2
  have B2 := below_next B1 b2
  have hct : Hid (Calls Try.prog 21 #[.agg #[.int .i64 ((k : Int) + 2), .slice A' (cL k q z y).length c'], .int .i64 k, .int .i64 ((k : Int) + 1)] w2 (CutOk w2 (k + 2) (cNet k q z y) k (k + 1))) :=
    cut_ok (k + 2) (cL k q z y).length c' k (k + 1) A' (eE (cL k q z y)) w2 hEd HC.out.net (by omega) (by omega) (by omega)
  clear hnt b2 s1 B1 hEd
  go_wp2_with fail
  refine hct.out.mono ?_; rintro e w3 ⟨gW, lc, R, rfl, hrW, hdone, hmem, hgW, b3⟩
  have bS := below_new w3 (.cells #[.int .i64 ((k : Int) + 2), .slice (some ⟨gW, 0, none⟩) ((k + 2 + 63) / 64) ((k + 2 + 63) / 64)] 28)
  have s3 := (s2.below b3).below bS
  have t3 := setAt_new w3 ((k : Int) + 2) (some ⟨gW, 0, none⟩) ((k + 2 + 63) / 64) ((k + 2 + 63) / 64)
  have hrW3 := row_below hrW bS
  have B3 := below_next (below_next B2 b3) bS
  have hvld : Hid (Vld ((k + 2 : Nat) : Int) ((k + 2 + 63) / 64) (setF lc)) := setF_vld (by omega) (fun x hx => ((hmem x).1 hx).1)
  have hbest : Hid (Best k q z y (bt (setF lc))) := HC.out.best hdone (fun v hv => by rw [setF_bt, hmem]; exact ⟨fun h => h.2, fun h => ⟨by omega, h⟩⟩)
  clear hct s2 B2 hdone hmem hgW bS hrW b3
  go_wp2_with fail
  generalize hW : w3.alloc (.cells #[.int .i64 ((k : Int) + 2), .slice (some ⟨gW, 0, none⟩) ((k + 2 + 63) / 64) ((k + 2 + 63) / 64)] 28) = W at *
  clear hW
  have hsW := t3.lt
  have hgl := hrW3.lt
  have hHas : Hid (∀ (u : World) (K : Nat) (v : Bool), Below W.heap.size W u → K < k → bt (setF lc) K = v → Calls Try.prog 41 #[.agg #[.int .i64 ((k : Int) + 2), .slice (some ⟨gW, 0, none⟩) ((k + 2 + 63) / 64) ((k + 2 + 63) / 64)], .int .i64 K] u fun e w' => e = .returned (.bool v) ∧ Below u.heap.size u w') := fun u K v hu hK hv =>
    has_in (k + 2) K (some ⟨gW, 0, none⟩) ((k + 2 + 63) / 64) ((k + 2 + 63) / 64) (setF lc) v u (row_wds (row_below hrW3 hu) (setF_u64 _ _)) hvld.out (by omega) hv
  clear hvld hrW3
  generalize bt (setF lc) = T at *
  generalize (k + 2 + 63) / 64 = mw at *
  go_loopw [5, 13, 14, 15, 42] (fun x5 x _ _ i wr => ∃ (K : Nat) (v : Value), K ≤ k ∧ i = .int .i64 K ∧ v = x ∧ x5 = .int .i64 (wgt z T K) ∧ wr.ownsRow W.heap.size 3 1 v (mbr T K).length (vals (mbr T K)) ∧ Below W.heap.size W wr) (fun _ _ _ _ i _ => k - (intOf i).toNat)
  case atStart => exact ⟨0, _, by omega, rfl, rfl, rfl, World.ownsRow_nil _ _ _ _, Below.refl _ _⟩
  case round =>
    obtain ⟨K, v, hK, rfl, rfl, rfl, hown, hBe⟩ := hrel
    have hsz := hBe.size
    by_cases hlt : K < k
    · obtain ⟨b, off, rfl, hbl, hcz⟩ := (HA.out.below (below_next B3 hBe)) (by omega)
      have x0 := hcz K hlt
      clear hcz
      have hzK := HC.out.z K hlt
      unfold WOk at hzK
      have hwb := wgt_bound (z := z) (S := T) (K := K) (fun i hi => HC.out.z i (by omega)) (by omega)
      have hwrap : IntKind.i64.wrap ((K : Int) + 1) = (K : Int) + 1 := IntWalk.i64_in _ (by omega)
      have hw2 : IntKind.i64.wrap (wgt z T K + z K) = wgt z T K + z K := IntWalk.i64_in _ (by omega)
      have hlen := mbr_len T K
      have hstep : Hid (wgt z T (K + 1) = wgt z T K + (if T K = true then z K else 0)) := rfl
      have t9 := t3.below hBe
      have c0 := t9.c0
      have c1 := t9.c1
      obtain ⟨vb, hvb⟩ : ∃ vb, T K = vb := ⟨_, rfl⟩
      have hhas := Lib.hid (hHas.out wr K vb hBe hlt hvb)
      cases vb with
      | false =>
        have hst2 : Hid (wgt z T (K + 1) = wgt z T K) := by show _ = _; have := hstep.out; rw [hvb] at this; simpa using this
        have hst3 := Lib.hid (mbr_no hvb)
        clear hstep hvb
        generalize mbr T K = l at *
        generalize wgt z T K = wg at *
        generalize z K = zk at *
        go_wp2_with fail
        refine hhas.out.mono ?_; rintro e w4 ⟨rfl, b4⟩
        have hown4 := own_below hown b4
        have B4 := below_next hBe b4
        clear hown hBe t9 c0 c1 x0
        go_wp2_with fail
        go_roundw
        case rel => exact ⟨K + 1, v, by omega, by go_num, rfl, by rw [hst2.out], by rw [hst3.out]; exact hown4, B4⟩
        case measure => simp [intOf]; omega
      | true =>
        have hst2 : Hid (wgt z T (K + 1) = wgt z T K + z K) := by show _ = _; have := hstep.out; rw [hvb] at this; simpa using this
        have hst3 := Lib.hid (mbr_yes hvb)
        clear hstep hvb
        generalize mbr T K = l at *
        generalize wgt z T K = wg at *
        generalize z K = zk at *
        go_wp2_with fail
        refine hhas.out.mono ?_; rintro e w4 ⟨rfl, b4⟩
        have hown4 := own_below hown b4
        have B4 := below_next hBe b4
        have hsz4 := B4.size
        have bA := below_new w4 (.cells #[.int .i64 (K : Int)] 3)
        have hownA := own_below hown4 bA
        have BA := below_next B4 bA
        clear hown hBe t9 c0 c1 x0
        go_wp2_with (at_builtin; refine append_nat rfl (.tmp 50) (.tmp 52) rfl W.heap.size v l K K _ rfl hownA w4.heap.size rfl (heap_alloc_new _ _) rfl (by omega) (by simp; omega) ?_)
        intro g cap w9 hown9 hg9 _
        have B9 := grown_below3 BA hownA (Nat.le_refl _) BA.size hg9
        clear hown4 B4 bA hownA BA hg9
        go_wp2_with fail
        go_roundw
        case rel => exact ⟨K + 1, _, by omega, by go_num, rfl, by rw [hst2.out], by rw [hst3.out, List.length_append, List.length_singleton]; exact hown9, B9⟩
        case measure => simp [intOf]; omega
    · obtain rfl : K = k := by omega
      have hlen := mbr_len T K
      have hlt9 : Hid (∀ x, x ∈ mbr T K → x < K) := fun x hx => (mbr_mem.1 hx).1
      have hTv : ∀ v, v < K → T v = bt (setF (mbr T K)) v := fun v hv => by
        have h1 := setF_bt (mbr T K) v
        rw [mbr_mem] at h1
        cases h2 : T v <;> cases h3 : bt (setF (mbr T K)) v <;> simp_all
      have hbest2 := Lib.hid (hbest.out.congr HC.out.y hTv)
      have hwg : Hid (wgt z T K = wgt z (bt (setF (mbr T K))) K) := wgt_congr hTv
      clear hTv
      obtain ⟨l, hl⟩ : ∃ l, l = mbr T K := ⟨_, rfl⟩
      rw [← hl] at hown hlen hlt9 hbest2 hwg
      clear hl
      have s9 := s3.below hBe
      have B9 := below_next B3 hBe
      have hof := Lib.hid (of_list K v W.heap.size l wr (by omega) hown (by omega) hlt9.out)
      have hwsz : w.heap.size ≤ wr.heap.size := B9.size
      have hwl := s9.lt
      rw [hwg.out]
      clear hown hBe
      generalize hwgE : wgt z (bt (setF l)) K = wg at *
      have HWE := Lib.hid hwgE
      clear hwgE
      go_wp2_with fail
      refine hof.out.mono ?_; rintro e w10 ⟨gR, rfl, hgR, hrR, b10⟩
      have s10 := s9.below b10
      have B10 := below_next B9 b10
      have r0 := s10.c0
      have r1 := s10.c1
      have f0 := s10.free 0
      have f1 := s10.free 1
      have hne : gR ≠ w.heap.size := by omega
      have s11 := setAt_put (N' := (K : Int)) (A' := some ⟨gR, 0, none⟩) (l' := (K + 63) / 64) (c' := (K + 63) / 64) s10
      have r2 := s11.c0
      have r3 := s11.c1
      have f2 := s11.free 0
      have f3 := s11.free 1
      have s12 := setAt_put (N' := (K : Int)) (A' := some ⟨gR, 0, none⟩) (l' := (K + 63) / 64) (c' := (K + 63) / 64) s11
      have k0 := s12.c0
      have k1 := s12.c1
      have hrR12 := ((((hrR.setOther (a := ⟨w.heap.size, 0, none⟩) (by exact hne) (.int .i64 (K : Int))).setOther (a := ⟨w.heap.size, 1, none⟩) (by exact hne) (.slice (some ⟨gR, 0, none⟩) ((K + 63) / 64) ((K + 63) / 64))).setOther (a := ⟨w.heap.size, 0, none⟩) (by exact hne) (.int .i64 (K : Int))).setOther (a := ⟨w.heap.size, 1, none⟩) (by exact hne) (.slice (some ⟨gR, 0, none⟩) ((K + 63) / 64) ((K + 63) / 64)))
      have B12 := (((B10.setCell (p := ⟨w.heap.size, 0, none⟩) (by exact Nat.le_refl _) (.int .i64 (K : Int))).setCell (p := ⟨w.heap.size, 1, none⟩) (by exact Nat.le_refl _) (.slice (some ⟨gR, 0, none⟩) ((K + 63) / 64) ((K + 63) / 64))).setCell (p := ⟨w.heap.size, 0, none⟩) (by exact Nat.le_refl _) (.int .i64 (K : Int))).setCell (p := ⟨w.heap.size, 1, none⟩) (by exact Nat.le_refl _) (.slice (some ⟨gR, 0, none⟩) ((K + 63) / 64) ((K + 63) / 64))
      go_wp2_with fail
      refine bodyPost_ret (v := .tuple #[.agg #[.int .i64 K, .slice (some ⟨gR, 0, none⟩) ((K + 63) / 64) ((K + 63) / 64)], .int .i64 wg, .int .i64 0]) (by simp [results, Try.results30, go_sem, k0, k1]) rfl ?_
      exact ⟨gR, l, by rw [HWE.out], hrR12, hlt9.out, hbest2.out, by omega, B12⟩
end Go.Proofs.Ytjdceafkcakbjaa
