/- The reference's Same: relations with the same rows. -/
import Derived.Test.YtakjdihhbndcnaaDoorPCov
namespace Go.Proofs.YtakjdihhbndcnaaDoor
open Go.RowKit Go.Sort
theorem row_words {n : Nat} {r s : RowD} (hr : VRow n r) (hs : VRow n s) (ur : U64 r.f r.l) (us : U64 s.f s.l) (h : ∀ j, j < n → bt r.f j = bt s.f j) : r.l = s.l ∧ ∀ k, k < r.l → r.f k = s.f k := by
  have h1 := hr.2.2.2.1
  have h2 := hs.2.2.2.1
  have b1 := hr.2.2.2.2
  have b2 := hs.2.2.2.2
  simp only [Int.toNat_natCast] at h1 h2 b1 b2
  have e : r.l = s.l := h1.trans h2.symm
  refine ⟨e, bt_ext ur (by rw [e]; exact us) fun i hi => ?_⟩
  by_cases hn : i < n
  · exact h i hn
  · rw [b1 i (by omega) hi, b2 i (by omega) (by rw [← e]; exact hi)]
set_option maxRecDepth 100000 in
set_option maxHeartbeats 4000000 in
theorem sameAll_yes (A B : Option Addr) (n c d : Nat) (R S : Nat → RowD) (w : World) (ha : Rel w A n R) (hb : Rel w B n S) (hv : VRel n R) (hs : VRel n S) (he : ∀ i, i < n → ∀ j, j < n → mat R i j = mat S i j) :
    Calls Tryd.prog 55 #[.slice A n c, .slice B n d] w fun e w' => e = .returned (.bool true) ∧ Below w.heap.size w w' := by
  have hn := hv.1
  have HA := Lib.hid ha
  have HB := Lib.hid hb
  have HV := Lib.hid hv
  have HS := Lib.hid hs
  have HE := Lib.hid he
  have hne : ((n : Int) != (n : Int)) = false := by simp
  clear ha hb hv hs he
  go_enter Tryd.func55, Tryd.ntmps55
  go_wp2_with fail
  go_loopw [5] (fun i wr => ∃ K : Nat, K ≤ n ∧ i = .int .i64 K ∧ Below w.heap.size w wr) (fun i _ => n - (intOf i).toNat)
  case atStart => exact ⟨0, by omega, rfl, Below.refl _ _⟩
  case round =>
    obtain ⟨K, hK, rfl, hW⟩ := hrel
    by_cases hlt : K < n
    · obtain ⟨b1, o1, rfl, _, h1⟩ := HA.out.below hW (by omega)
      obtain ⟨b2, o2, rfl, _, h2⟩ := HB.out.below hW (by omega)
      obtain ⟨x0, x1, xw⟩ := h1 K hlt
      obtain ⟨y0, y1, yw⟩ := h2 K hlt
      have hr := HV.out.2 K hlt
      have hs := HS.out.2 K hlt
      obtain ⟨hl, hf⟩ := row_words hr hs xw.1 yw.1 (HE.out K hlt)
      have hl9 : (R K).l ≤ 1000 := by have := hr.2.2.2.1; have := hr.2.2.1; omega
      rw [hr.1] at x0
      rw [hs.1] at y0
      rw [← hl] at y1 yw
      have hwrap : IntKind.i64.wrap ((K : Int) + 1) = (K : Int) + 1 := IntWalk.i64_in _ (by omega)
      have k0 := cell_regrown x0
      have k1 := cell_regrown x1
      have k2 := cell_regrown y0
      have k3 := cell_regrown y1
      have CA := Lib.hid (fun dd os => Calls.regrown_of (refSame_any n (R K).A (S K).A (R K).l (R K).c (S K).c (R K).f (S K).f (R K).l true (grow (redrawn wr dd) os) (xw.below (below_regrown wr dd os)) (yw.below (below_regrown wr dd os)) hl9 (Nat.le_refl _) hf (Or.inl ⟨rfl, rfl⟩)))
      generalize (R K).A = A1 at *
      generalize (S K).A = A2 at *
      generalize (R K).l = l1 at *
      generalize (R K).c = c1 at *
      generalize (S K).c = c2 at *
      clear h1 h2 xw yw hr hs hl hf hl9
      go_wp2_with fail
      clear x0 x1 y0 y1
      refine wp_region_quiet_below (by kernel_rfl) (by kernel_rfl) ?_
      repeat (first | go_big_quiet_step (first | with_reducible exact CA.out _ _) | quiet_step (first | with_reducible exact CA.out _ _))
      refine wpQuiet_nil ?_
      intro _ hw'
      obtain ⟨⟨dq, osq⟩, hw''⟩ := hw'
      subst hw''
      clear k0 k1 k2 k3 CA
      have B7 := below_next hW (below_regrown wr dq osq)
      go_wp2_with fail
      go_roundw
      case rel => exact ⟨K + 1, by omega, by go_num, B7⟩
      case measure => simp [intOf]; omega
    · go_wp2_with fail
      go_ret
      exact ⟨rfl, hW⟩
theorem psame_yes (A B : Option Addr) (n c d : Nat) (R S : Nat → RowD) (w : World) (ha : Rel w A n R) (hb : Rel w B n S) (hv : VRel n R) (hs : VRel n S) (he : ∀ i, i < n → ∀ j, j < n → mat R i j = mat S i j) :
    Calls Tryd.prog 19 #[.agg #[.slice A n c], .agg #[.slice B n d]] w fun e w' => e = .returned (.bool true) ∧ Below w.heap.size w w' := by
  have b0 : Below w.heap.size w ((w.alloc (.cells #[.slice A n c] 24)).alloc (.cells #[.slice B n d] 24)) := ((Below.refl _ _).alloc (Nat.le_refl _) _).alloc (by simp) _
  have r0 := (relAt_new w A n c).alloc (.cells #[.slice B n d] 24)
  have r1 := relAt_new (w.alloc (.cells #[.slice A n c] 24)) B n d
  have hsz : (w.alloc (.cells #[.slice A n c] 24)).heap.size = w.heap.size + 1 := by simp
  rw [hsz] at r1
  have HC := Lib.hid (sameAll_yes A B n c d R S _ (ha.below b0) (hb.below b0) hv hs he)
  have c0 := r0.c0
  have c1 := r1.c0
  clear ha hb hv hs he r0 r1 hsz
  go_enter Tryd.func19, Tryd.ntmps19
  go_wp2_with fail
  refine HC.out.mono ?_; rintro e w2 ⟨rfl, b2⟩
  go_wp2_with fail
  go_ret
  exact ⟨rfl, below_next b0 b2⟩
/- the law's own set -/
theorem setAt_put {w : World} {p : Nat} {N N' : Int} {A A' : Option Addr} {l c l' c' : Nat} (h : SetAt w p N A l c) : SetAt ((w.setCell ⟨p, 0, none⟩ (.int .i64 N')).setCell ⟨p, 1, none⟩ (.slice A' l' c')) p N' A' l' c' := by
  have h0 := heap_setCell_same w p 0 _ _ (.int .i64 N') h
  have h1 := heap_setCell_same _ p 1 _ _ (.slice A' l' c') h0
  unfold SetAt
  simpa using h1
set_option maxHeartbeats 2000000 in
theorem lawset_any (A : Option Addr) (m c : Nat) (z : Nat → Nat) (w : World) (h : Ints w A m (fun k => (z k : Int))) (hm : m ≤ 100000) (hz : ∀ k, k < m → z k < 4) :
    Calls Tryd.prog 44 #[.slice A m c] w (fun e w' => ∃ g, e = .returned (.agg #[.int .i64 4, .slice (some ⟨g, 0, none⟩) 1 1]) ∧ w.heap.size ≤ g ∧ w'.rowIs g 59 1 (fun k => .int .u64 (ow z m k : Nat)) ∧ Below w.heap.size w w') := by
  have HI := Lib.hid h
  have HZ := Lib.hid hz
  clear h hz
  have s0 := setAt_new w 0 none 0 0
  have b0 : Below w.heap.size w (w.alloc (.cells #[.int .i64 0, .slice none 0 0] 37)) := (Below.refl _ _).alloc (Nat.le_refl _) _
  have HO : Hid (Calls Tryd.prog 42 #[.int .i64 4, .slice A m c] (w.alloc (.cells #[.int .i64 0, .slice none 0 0] 37)) (fun e w' => ∃ g, e = .returned (.agg #[.int .i64 4, .slice (some ⟨g, 0, none⟩) 1 1]) ∧ (w.alloc (.cells #[.int .i64 0, .slice none 0 0] 37)).heap.size ≤ g ∧ w'.rowIs g 59 1 (fun k => .int .u64 (ow z m k : Nat)) ∧ Below (w.alloc (.cells #[.int .i64 0, .slice none 0 0] 37)).heap.size (w.alloc (.cells #[.int .i64 0, .slice none 0 0] 37)) w')) :=
    Lib.hid (refOf_any 4 A m c z _ (by omega) (HI.out.below b0) hm HZ.out)
  go_enter Tryd.func44, Tryd.ntmps44
  go_upto_region 1 with fail
  generalize w.alloc (.cells #[.int .i64 0, .slice none 0 0] 37) = W at *
  go_wp2_with fail
  refine HO.out.mono ?_; rintro e w2 ⟨g, rfl, hg, hrow, b2⟩
  have s2 := s0.below b2
  have B2 := below_next b0 b2
  have hlt := s0.lt
  have c0 := s2.c0
  have c1 := s2.c1
  have f0 := s2.free 0
  have f1 := s2.free 1
  have s3 := setAt_put (N' := 4) (A' := some ⟨g, 0, none⟩) (l' := 1) (c' := 1) s2
  have k0 := s3.c0
  have k1 := s3.c1
  have HROW := Lib.hid ((hrow.setOther (a := ⟨w.heap.size, 0, none⟩) (by show g ≠ w.heap.size; omega) (.int .i64 4)).setOther (a := ⟨w.heap.size, 1, none⟩) (by show g ≠ w.heap.size; omega) (.slice (some ⟨g, 0, none⟩) 1 1))
  have B4 := Lib.hid ((B2.setCell (p := ⟨w.heap.size, 0, none⟩) (Nat.le_refl _) (.int .i64 4)).setCell (p := ⟨w.heap.size, 1, none⟩) (Nat.le_refl _) (.slice (some ⟨g, 0, none⟩) 1 1))
  clear s0 s2 s3 hrow b0 b2 B2 HO
  go_wp2_with fail
  refine bodyPost_ret (v := .agg #[.int .i64 4, .slice (some ⟨g, 0, none⟩) 1 1]) (by simp [results, Tryd.results44, go_sem, k0, k1]) rfl ?_
  exact ⟨g, rfl, by omega, HROW.out, B4.out⟩
end Go.Proofs.YtakjdihhbndcnaaDoor
