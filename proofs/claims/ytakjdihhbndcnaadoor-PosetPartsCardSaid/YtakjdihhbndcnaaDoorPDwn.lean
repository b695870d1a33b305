/- Package poset: Down. -/
import Derived.Test.YtakjdihhbndcnaaDoorPEle
import Derived.Test.YtakjdihhbndcnaaDoorPDow
namespace Go.Proofs.YtakjdihhbndcnaaDoor
open Go.RowKit
theorem isSetOf_yes (A S : Option Addr) (n c l cs : Nat) (s : Nat → Nat) (w : World) (hS : Wds w S l s) (hs : Vld (n : Int) l s) :
    Calls Tryd.prog 67 #[.agg #[.slice A n c], .agg #[.int .i64 n, .slice S l cs]] w fun e w' => e = .returned (.bool true) ∧ Below w.heap.size w w' := by
  have r0 := (relAt_new w A n c).alloc (.cells #[.int .i64 n, .slice S l cs] 37)
  have q0 := setAt_new (w.alloc (.cells #[.slice A n c] 24)) n S l cs
  have hz : (w.alloc (.cells #[.slice A n c] 24)).heap.size = w.heap.size + 1 := by simp
  rw [hz] at q0
  have b0 : Below w.heap.size w ((w.alloc (.cells #[.slice A n c] 24)).alloc (.cells #[.int .i64 n, .slice S l cs] 37)) := ((Below.refl _ _).alloc (Nat.le_refl _) _).alloc (by simp) _
  have HV := Lib.hid (valid_yes n S l cs s _ (hS.below b0) hs)
  clear hz hS hs
  go_enter Tryd.func67, Tryd.ntmps67
  go_upto_region 1 with fail
  generalize (w.alloc (.cells #[.slice A n c] 24)).alloc (.cells #[.int .i64 n, .slice S l cs] 37) = W at *
  have c0 := q0.c0
  have c1 := q0.c1
  go_wp2_with fail
  refine HV.out.mono ?_; rintro e w2 ⟨rfl, b2⟩
  have r2 := r0.below b2
  have q2 := q0.below b2
  clear c0 c1 r0 q0
  have c0 := r2.c0
  have d0 := q2.c0
  have d1 := q2.c1
  have hq : ((n : Int) == (n : Int)) = true := by simp
  go_wp2_with fail
  go_ret
  exact ⟨rfl, below_next b0 b2⟩
def DownOk (w : World) (n : Nat) (f : Nat → Nat) (e : Ending) (w' : World) : Prop :=
  ∃ g, e = .returned (.tuple #[.agg #[.int .i64 n, .slice (some ⟨g, 0, none⟩) ((n + 63) / 64) ((n + 63) / 64)], .int .i64 0]) ∧ w.heap.size ≤ g ∧ w'.rowIs g 59 ((n + 63) / 64) (fun k => .int .u64 (f k : Nat)) ∧ Below w.heap.size w w'
set_option maxRecDepth 100000 in
set_option maxHeartbeats 4000000 in
theorem down_ok (A S : Option Addr) (n c cs : Nat) (R : Nat → RowD) (s : Nat → Nat) (w : World) (h : Rel w A n R) (hT : Tab w) (hP : POrd n R) (hS : Wds w S ((n + 63) / 64) s) (hs : Vld (n : Int) ((n + 63) / 64) s) :
    Calls Tryd.prog 33 #[.agg #[.slice A n c], .agg #[.int .i64 n, .slice S ((n + 63) / 64) cs]] w (DownOk w n (setF (tl (dwn n (mat R) s) true n))) := by
  have hn := hP.1.1
  have HP := Lib.hid hP
  have HH := Lib.hid h
  have HS := Lib.hid hS
  have HVS := Lib.hid hs
  have r0 := ((relAt_new w A n c).alloc (.cells #[.int .i64 n, .slice S ((n + 63) / 64) cs] 37)).alloc (.cells #[.int .i64 0, .slice none 0 0] 37)
  have q0 := (setAt_new (w.alloc (.cells #[.slice A n c] 24)) n S ((n + 63) / 64) cs).alloc (.cells #[.int .i64 0, .slice none 0 0] 37)
  have s0 := setAt_new ((w.alloc (.cells #[.slice A n c] 24)).alloc (.cells #[.int .i64 n, .slice S ((n + 63) / 64) cs] 37)) 0 none 0 0
  have hz : (w.alloc (.cells #[.slice A n c] 24)).heap.size = w.heap.size + 1 := by simp
  have hz2 : ((w.alloc (.cells #[.slice A n c] 24)).alloc (.cells #[.int .i64 n, .slice S ((n + 63) / 64) cs] 37)).heap.size = w.heap.size + 2 := by simp
  rw [hz] at q0
  rw [hz2] at s0
  have b0 : Below w.heap.size w (((w.alloc (.cells #[.slice A n c] 24)).alloc (.cells #[.int .i64 n, .slice S ((n + 63) / 64) cs] 37)).alloc (.cells #[.int .i64 0, .slice none 0 0] 37)) := (((Below.refl _ _).alloc (Nat.le_refl _) _).alloc (by simp) _).alloc (by simp; omega) _
  clear hz hz2 hP h hS hs
  go_enter Tryd.func33, Tryd.ntmps33
  go_upto_region 1 with fail
  generalize ((w.alloc (.cells #[.slice A n c] 24)).alloc (.cells #[.int .i64 n, .slice S ((n + 63) / 64) cs] 37)).alloc (.cells #[.int .i64 0, .slice none 0 0] 37) = W at *
  have c0 := r0.c0
  go_wp2_with fail
  refine (pvalid_any A n c R true W (HH.out.below b0) (by omega) (hT.below b0) ⟨fun _ => HP.out, fun _ => rfl⟩).mono ?_; rintro e w2 ⟨rfl, b2⟩
  have r2 := r0.below b2
  have q2 := q0.below b2
  have s2 := s0.below b2
  have B2 := below_next b0 b2
  clear r0 q0 s0 c0 b0 b2
  have c0 := r2.c0
  have d0 := q2.c0
  have d1 := q2.c1
  go_wp2_with fail
  refine (isSetOf_yes A S n c ((n + 63) / 64) cs s w2 (HS.out.below B2) HVS.out).mono ?_; rintro e w3 ⟨rfl, b3⟩
  have r3 := r2.below b3
  have q3 := q2.below b3
  have s3 := s2.below b3
  have B3 := below_next B2 b3
  clear r2 q2 s2 c0 d0 d1 B2 b3
  have c0 := r3.c0
  have HE := Lib.hid (elements68 n c A w.heap.size (w.heap.size + 1) (dwn n (mat R) s) w3 hn (fun i hi u hu => down1_any w.heap.size (w.heap.size + 1) n c i cs A S R s u (HH.out.below (below_next B3 hu)) HP.out.1 (HS.out.below (below_next B3 hu)) HVS.out (r3.below hu) (q3.below hu) hi))
  unfold SetEnd at HE
  generalize hmw : (n + 63) / 64 = mw at *
  have HMW := Lib.hid hmw
  clear hmw HVS HS
  go_wp2_with fail
  refine HE.out.mono ?_; rintro e w4 ⟨g, rfl, hg, hrow, b4⟩
  have s4 := s3.below b4
  have B4 := below_next B3 b4
  have hsl := s3.lt
  have k0 := s4.c0
  have k1 := s4.c1
  have f0 := s4.free 0
  have f1 := s4.free 1
  have hgne : g ≠ w.heap.size + 2 := by omega
  have s5 := setAt_put (N' := (n : Int)) (A' := some ⟨g, 0, none⟩) (l' := mw) (c' := mw) s4
  have j0 := s5.c0
  have j1 := s5.c1
  have HROW := Lib.hid ((hrow.setOther (a := ⟨w.heap.size + 2, 0, none⟩) (by exact hgne) (.int .i64 (n : Int))).setOther (a := ⟨w.heap.size + 2, 1, none⟩) (by exact hgne) (.slice (some ⟨g, 0, none⟩) mw mw))
  have B5 := Lib.hid ((B4.setCell (p := ⟨w.heap.size + 2, 0, none⟩) (by show w.heap.size ≤ w.heap.size + 2; omega) (.int .i64 (n : Int))).setCell (p := ⟨w.heap.size + 2, 1, none⟩) (by show w.heap.size ≤ w.heap.size + 2; omega) (.slice (some ⟨g, 0, none⟩) mw mw))
  have hgw : w.heap.size ≤ g := by omega
  clear r3 q3 s3 s4 s5 c0 b4 hrow HE B3 B4
  go_wp2_with fail
  refine bodyPost_ret (v := .tuple #[.agg #[.int .i64 n, .slice (some ⟨g, 0, none⟩) mw mw], .int .i64 0]) (by simp [results, Tryd.results33, go_sem, j0, j1]) rfl ?_
  exact ⟨g, by rw [HMW.out], hgw, by rw [HMW.out]; exact HROW.out, B5.out⟩
end Go.Proofs.YtakjdihhbndcnaaDoor
