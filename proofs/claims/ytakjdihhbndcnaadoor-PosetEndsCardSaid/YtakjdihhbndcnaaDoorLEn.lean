/- The law PosetEnds: the walk. -/
import Derived.Test.YtakjdihhbndcnaaDoorLBk
import Derived.Test.YtakjdihhbndcnaaDoorPRMn
import Derived.Test.YtakjdihhbndcnaaDoorPRLv
import Derived.Deep.RegionHeld3
namespace Go.Proofs.YtakjdihhbndcnaaDoor
open Go.RowKit Go.Sort
theorem noset_any (w : World) : Calls Tryd.prog 27 #[.agg #[.int .i64 0, .slice none 0 0]] w fun e w' => e = .returned (.bool true) ∧ Below w.heap.size w w' := by
  have b0 := bnew w (.cells #[.int .i64 0, .slice none 0 0] 37)
  go_enter Tryd.func27, Tryd.ntmps27
  go_wp2
  go_ret
  exact ⟨rfl, b0⟩
theorem row_ints {w : World} {g n : Nat} {z : Nat → Int} (h : w.rowIs g 3 n (ivals z)) : Ints w (some ⟨g, 0, none⟩) n z := fun _ => ⟨g, 0, rfl, h.lt, fun k hk => by rw [Nat.zero_add]; exact h.cell hk⟩
structure Eb (w wr : World) (A : Option Addr) (n c : Nat) : Prop where
  a : RelAt wr w.heap.size A n c
  f : Below w.heap.size w wr
theorem Eb.next {w wr w2 : World} {A : Option Addr} {n c : Nat} (h : Eb w wr A n c) (k : Below wr.heap.size wr w2) : Eb w w2 A n c := ⟨h.a.below k, below_next h.f k⟩
set_option maxRecDepth 100000 in
set_option maxHeartbeats 8000000 in
theorem en_law (A : Option Addr) (n c : Nat) (R : Nat → RowD) (w : World) (ha : Rel w A n R) (hT : Tab w) :
    Calls Tryd.prog 5 #[.agg #[.slice A n c]] w fun e w' => e = .returned (.bool true) ∧ Below w.heap.size w w' := by
  have HR := Lib.hid ha
  clear ha
  have hT0 : Eb w (w.alloc (.cells #[.slice A n c] 24)) A n c := ⟨relAt_new w A n c, (Below.refl _ _).alloc (Nat.le_refl _) _⟩
  go_enter Tryd.func5, Tryd.ntmps5
  go_upto_region 1 with fail
  generalize w.alloc (.cells #[.slice A n c] 24) = W at *
  go_wp2_with fail
  refine (awake_any W (hT.below hT0.f)).mono ?_; rintro e w1 ⟨rfl, b1⟩
  have hT1 := hT0.next b1
  clear hT0 b1
  obtain ⟨v1, hv1⟩ : ∃ v : Bool, v = true ↔ Few n R := ⟨@decide _ (Classical.propDecidable _), @decide_eq_true_iff _ (Classical.propDecidable _)⟩
  have HF1 := Lib.hid (few_any A n c R v1 w1 (HR.out.below hT1.f) hv1)
  have HV1 := Lib.hid hv1
  clear hv1
  have c0 := hT1.a.c0
  go_wp2_with fail
  refine HF1.out.mono ?_; rintro e w2 ⟨rfl, b2⟩
  have hT2 := hT1.next b2
  clear hT1 b2 c0 HF1
  cases v1 with
  | false =>
    go_wp2_with fail
    refine (awake_any w2 (hT.below hT2.f)).mono ?_; rintro e w3 ⟨rfl, b3⟩
    go_wp2_with fail
    go_ret
    exact ⟨rfl, below_next hT2.f b3⟩
  | true =>
    have hn := (HV1.out.1 rfl).1
    clear HV1
    by_cases hP : POrd n R
    · have HP := Lib.hid hP
      obtain ⟨mw, hmw⟩ : ∃ mw, (n + 63) / 64 = mw := ⟨_, rfl⟩
      have HMW := Lib.hid hmw
      obtain ⟨f1, hf1⟩ : ∃ f, setF (tl (minT n (mat R)) true n) = f := ⟨_, rfl⟩
      obtain ⟨f2, hf2⟩ : ∃ f, setF (tl (maxT n (mat R)) true n) = f := ⟨_, rfl⟩
      have h1 : Hid (∀ u, Below w.heap.size w u → Calls Tryd.prog 24 #[.agg #[.slice A n c]] u (SetOk u n mw f1)) := Lib.hid fun u hu => (minl_on A n c R u (HR.out.below hu) (hT.below hu) HP.out).mono fun e w' h => by
        rcases h with ⟨_, h⟩ | ⟨h, _⟩
        · unfold DownOk at h; rw [hmw, hf1] at h; exact h
        · exact absurd HP.out h
      have h2 : Hid (∀ u, Below w.heap.size w u → Calls Tryd.prog 25 #[.agg #[.slice A n c]] u (SetOk u n mw f2)) := Lib.hid fun u hu => (maxl_on A n c R u (HR.out.below hu) (hT.below hu) HP.out).mono fun e w' h => by
        rcases h with ⟨_, h⟩ | ⟨h, _⟩
        · unfold DownOk at h; rw [hmw, hf2] at h; exact h
        · exact absurd HP.out h
      have r1 : Hid (∀ u, Below w.heap.size w u → Calls Tryd.prog 29 #[.agg #[.slice A n c]] u (SetNew u n mw f1)) := Lib.hid fun u hu => (rminl_any A n c R u (HR.out.below hu) HP.out.1).mono fun e w' h => by
        unfold SetEnd at h; rw [hmw, hf1] at h; exact h
      have r2 : Hid (∀ u, Below w.heap.size w u → Calls Tryd.prog 30 #[.agg #[.slice A n c]] u (SetNew u n mw f2)) := Lib.hid fun u hu => (rmaxl_any A n c R u (HR.out.below hu) HP.out.1).mono fun e w' h => by
        unfold SetEnd at h; rw [hmw, hf2] at h; exact h
      have s1 : Hid (∀ (u : World) (g h : Nat), u.rowIs g 59 mw (fun k => .int .u64 (f1 k : Nat)) → u.rowIs h 59 mw (fun k => .int .u64 (f1 k : Nat)) → Calls Tryd.prog 28 #[.agg #[.int .i64 n, .slice (some ⟨g, 0, none⟩) mw mw], .agg #[.int .i64 n, .slice (some ⟨h, 0, none⟩) mw mw]] u fun e w' => e = .returned (.bool true) ∧ Below u.heap.size u w') := Lib.hid fun u g h hg hh => by
        subst hmw hf1; exact rsame_setF n g h _ _ _ u (by omega) hg hh
      have s2 : Hid (∀ (u : World) (g h : Nat), u.rowIs g 59 mw (fun k => .int .u64 (f2 k : Nat)) → u.rowIs h 59 mw (fun k => .int .u64 (f2 k : Nat)) → Calls Tryd.prog 28 #[.agg #[.int .i64 n, .slice (some ⟨g, 0, none⟩) mw mw], .agg #[.int .i64 n, .slice (some ⟨h, 0, none⟩) mw mw]] u fun e w' => e = .returned (.bool true) ∧ Below u.heap.size u w') := Lib.hid fun u g h hg hh => by
        subst hmw hf2; exact rsame_setF n g h _ _ _ u (by omega) hg hh
      clear hmw hf1 hf2 hP HMW
      have c0 := hT2.a.c0
      have H1 := Lib.hid (h1.out w2 hT2.f)
      unfold SetOk at H1
      go_wp2_with fail
      clear c0
      refine H1.out.mono ?_; rintro e w3 ⟨g1, rfl, _, hg1, b3⟩
      have bx := bnew w3 (.cells #[.int .i64 (n : Int), .slice (some ⟨g1, 0, none⟩) mw mw] 37)
      have q1 := setAt_new w3 (n : Int) (some ⟨g1, 0, none⟩) mw mw
      have hT4 := (hT2.next b3).next bx
      have HG1 := Lib.hid (row_below hg1 bx)
      clear hg1 b3 bx hT2 H1 h1
      go_upto_region 4 with fail
      generalize w3.heap.size = p1 at *
      generalize w3.alloc (.cells #[.int .i64 (n : Int), .slice (some ⟨g1, 0, none⟩) mw mw] 37) = w4 at *
      have c0 := hT4.a.c0
      have H1 := Lib.hid (h2.out w4 hT4.f)
      unfold SetOk at H1
      go_wp2_with fail
      clear c0
      refine H1.out.mono ?_; rintro e w5 ⟨g2, rfl, _, hg2, b5⟩
      have bx := bnew w5 (.cells #[.int .i64 (n : Int), .slice (some ⟨g2, 0, none⟩) mw mw] 37)
      have q2 := setAt_new w5 (n : Int) (some ⟨g2, 0, none⟩) mw mw
      have hT6 := (hT4.next b5).next bx
      have q16 := (q1.below b5).below bx
      have HG16 := Lib.hid (row_below (row_below HG1.out b5) bx)
      have HG2 := Lib.hid (row_below hg2 bx)
      clear hg2 b5 bx hT4 H1 h2 q1 HG1
      go_upto_region 5 with fail
      generalize w5.heap.size = p2 at *
      generalize w5.alloc (.cells #[.int .i64 (n : Int), .slice (some ⟨g2, 0, none⟩) mw mw] 37) = w6 at *
      have c0 := hT6.a.c0
      have H1 := Lib.hid (levels_any A n c R w6 (HR.out.below hT6.f) (by omega) (hT.below hT6.f))
      unfold LevEnd at H1
      go_wp2_with fail
      clear c0
      refine H1.out.mono ?_; rintro e w7 (⟨_, o, g3, ho, rfl, _, hg3, b7⟩ | ⟨hno, _⟩)
      rotate_left
      · exact absurd HP.out hno
      obtain ⟨hto, hol⟩ := order_topo ho
      obtain ⟨L, hL⟩ : ∃ L, lvK (mat R) n o n = L := ⟨_, rfl⟩
      have r3 : Hid (∀ u, Below w.heap.size w u → Calls Tryd.prog 32 #[.agg #[.slice A n c]] u (RLevOk u n L)) := Lib.hid fun u hu => rlevels_any A n c R L u (HR.out.below hu) HP.out.1 (hL ▸ lvK_lev hto hol) (fun j _ => hL ▸ (lvK_bound (mat R) n o n j).2)
      rw [hL] at hg3
      have hT7 := hT6.next b7
      have q17 := q16.below b7
      have q27 := q2.below b7
      have HG17 := Lib.hid (row_below HG16.out b7)
      have HG27 := Lib.hid (row_below HG2.out b7)
      have HG3 := Lib.hid hg3
      clear hg3 b7 hT6 H1 q16 q2 HG16 HG2 ho hto hol hL
      have c0 := hT7.a.c0
      have HV := Lib.hid (rpvalid_any A n c R true w7 (HR.out.below hT7.f) (by omega) ⟨fun _ => HP.out, fun _ => rfl⟩)
      go_wp2_with fail
      refine HV.out.mono ?_; rintro e w8 ⟨rfl, b8⟩
      have hT8 := hT7.next b8
      have HQ := Lib.hid (And.intro hT8.a (And.intro (q17.below b8) (q27.below b8)))
      have HG18 := Lib.hid (row_below HG17.out b8)
      have HG28 := Lib.hid (row_below HG27.out b8)
      have HG38 := Lib.hid (row_below HG3.out b8)
      have HB8 := Lib.hid hT8.f
      clear c0 b8 hT7 HV q17 q27 HG17 HG27 HG3 hT8 HP HR
      go_upto_region 8 with fail
      generalize w8 = W at *
      have a1 : Hid (∀ u, Below W.heap.size W u → Calls Tryd.prog 29 #[.agg #[.slice A n c]] u (SetNew u n mw f1)) := Lib.hid fun u hu => r1.out u (below_next HB8.out hu)
      have a2 : Hid (∀ u, Below W.heap.size W u → Calls Tryd.prog 30 #[.agg #[.slice A n c]] u (SetNew u n mw f2)) := Lib.hid fun u hu => r2.out u (below_next HB8.out hu)
      have a3 : Hid (∀ u, Below W.heap.size W u → Calls Tryd.prog 32 #[.agg #[.slice A n c]] u (RLevOk u n L)) := Lib.hid fun u hu => r3.out u (below_next HB8.out hu)
      have t1 : Hid (∀ u h, Below W.heap.size W u → u.rowIs h 59 mw (fun k => .int .u64 (f1 k : Nat)) → Calls Tryd.prog 28 #[.agg #[.int .i64 n, .slice (some ⟨g1, 0, none⟩) mw mw], .agg #[.int .i64 n, .slice (some ⟨h, 0, none⟩) mw mw]] u fun e w' => e = .returned (.bool true) ∧ Below u.heap.size u w') := Lib.hid fun u h hu hh => s1.out u g1 h (row_below HG18.out hu) hh
      have t2 : Hid (∀ u h, Below W.heap.size W u → u.rowIs h 59 mw (fun k => .int .u64 (f2 k : Nat)) → Calls Tryd.prog 28 #[.agg #[.int .i64 n, .slice (some ⟨g2, 0, none⟩) mw mw], .agg #[.int .i64 n, .slice (some ⟨h, 0, none⟩) mw mw]] u fun e w' => e = .returned (.bool true) ∧ Below u.heap.size u w') := Lib.hid fun u h hu hh => s2.out u g2 h (row_below HG28.out hu) hh
      have t3 : Hid (∀ u h, Below W.heap.size W u → u.rowIs h 3 n (ivals L) → Calls Tryd.prog 31 #[.slice (some ⟨g3, 0, none⟩) n n, .slice (some ⟨h, 0, none⟩) n n] u fun e w' => e = .returned (.bool true) ∧ Below u.heap.size u w') := Lib.hid fun u h hu hh => equal_ints (some ⟨g3, 0, none⟩) (some ⟨h, 0, none⟩) n n n L u (row_ints (row_below HG38.out hu)) (row_ints hh) (by omega)
      have hss : Hid (∀ w', Below W.heap.size W w' → Below W.heap.size W w' ∧ w'.cell? ⟨w.heap.size, 0, none⟩ = some (.slice A n c) ∧ w'.cell? ⟨p1, 0, none⟩ = some (.int .i64 n) ∧ w'.cell? ⟨p1, 1, none⟩ = some (.slice (some ⟨g1, 0, none⟩) mw mw) ∧ w'.cell? ⟨p2, 0, none⟩ = some (.int .i64 n) ∧ w'.cell? ⟨p2, 1, none⟩ = some (.slice (some ⟨g2, 0, none⟩) mw mw)) :=
        fun w' b => ⟨b, (HQ.out.1.below b).c0, (HQ.out.2.1.below b).c0, (HQ.out.2.1.below b).c1, (HQ.out.2.2.below b).c0, (HQ.out.2.2.below b).c1⟩
      clear r1 r2 r3 s1 s2 HG18 HG28 HG38 HQ
      unfold SetNew at a1 a2
      unfold RLevOk at a3
      go_region_held3 (fun w' => Below W.heap.size W w' ∧ w'.cell? ⟨w.heap.size, 0, none⟩ = some (.slice A n c) ∧ w'.cell? ⟨p1, 0, none⟩ = some (.int .i64 n) ∧ w'.cell? ⟨p1, 1, none⟩ = some (.slice (some ⟨g1, 0, none⟩) mw mw) ∧ w'.cell? ⟨p2, 0, none⟩ = some (.int .i64 n) ∧ w'.cell? ⟨p2, 1, none⟩ = some (.slice (some ⟨g2, 0, none⟩) mw mw))
        (first
          | exact hss.out _ (Below.refl _ _).drew
          | exact hss.out _ bc10
          | exact hss.out _ bc9
          | exact hss.out _ bc8
          | exact hss.out _ bc7
          | exact hss.out _ bc6
          | exact hss.out _ bc5)
        (first
          | (go_at_call 29; (with_reducible refine (a1.out _ (And.left (by assumption))).mono ?_); rintro e w5 ⟨g5, rfl, _, hr5, b5⟩; have bc5 := below_next (And.left (by assumption)) b5)
          | (go_at_call 30; (with_reducible refine (a2.out _ (And.left (by assumption))).mono ?_); rintro e w7 ⟨g7, rfl, _, hr7, b7⟩; have bc7 := below_next (And.left (by assumption)) b7)
          | (go_at_call 32; (with_reducible refine (a3.out _ (And.left (by assumption))).mono ?_); rintro e w9 ⟨g9, rfl, _, hr9, b9⟩; have bc9 := below_next (And.left (by assumption)) b9)
          | (go_at_call 31; (with_reducible refine (t3.out _ _ bc9 hr9).mono ?_); rintro e w10 ⟨rfl, b10⟩; have bc10 := below_next bc9 b10)
          | (go_at_call 28; (with_reducible refine (t2.out _ _ bc7 hr7).mono ?_); rintro e w8 ⟨rfl, b8⟩; have bc8 := below_next bc7 b8)
          | (go_at_call 28; (with_reducible refine (t1.out _ _ bc5 hr5).mono ?_); rintro e w6 ⟨rfl, b6⟩; have bc6 := below_next bc5 b6))
      all_goals
        have BB := below_next HB8.out bc10
        go_wp2_with fail
        go_ret
        exact ⟨rfl, BB⟩
    · have HP := Lib.hid hP
      clear hP
      have h1 : Hid (∀ u, Below w.heap.size w u → Calls Tryd.prog 24 #[.agg #[.slice A n c]] u fun e w' => e = .returned (.tuple #[.agg #[.int .i64 0, .slice none 0 0], .int .i64 1]) ∧ Below u.heap.size u w') := Lib.hid fun u hu => (minl_off A n c R u (HR.out.below hu) (by omega) (hT.below hu) HP.out (fun _ => 0)).mono fun e w' h => by
        rcases h with ⟨h, _⟩ | ⟨_, h⟩
        · exact absurd h HP.out
        · exact h
      have h2 : Hid (∀ u, Below w.heap.size w u → Calls Tryd.prog 25 #[.agg #[.slice A n c]] u fun e w' => e = .returned (.tuple #[.agg #[.int .i64 0, .slice none 0 0], .int .i64 1]) ∧ Below u.heap.size u w') := Lib.hid fun u hu => (maxl_off A n c R u (HR.out.below hu) (by omega) (hT.below hu) HP.out (fun _ => 0)).mono fun e w' h => by
        rcases h with ⟨h, _⟩ | ⟨_, h⟩
        · exact absurd h HP.out
        · exact h
      have c0 := hT2.a.c0
      have H1 := Lib.hid (h1.out w2 hT2.f)
      go_wp2_with fail
      clear c0
      refine H1.out.mono ?_; rintro e w3 ⟨rfl, b3⟩
      have bx := bnew w3 (.cells #[.int .i64 0, .slice none 0 0] 37)
      have q1 := setAt_new w3 0 none 0 0
      have hT4 := (hT2.next b3).next bx
      clear b3 bx hT2 H1 h1
      go_upto_region 4 with fail
      generalize w3.heap.size = p1 at *
      generalize w3.alloc (.cells #[.int .i64 0, .slice none 0 0] 37) = w4 at *
      have c0 := hT4.a.c0
      have H1 := Lib.hid (h2.out w4 hT4.f)
      go_wp2_with fail
      clear c0
      refine H1.out.mono ?_; rintro e w5 ⟨rfl, b5⟩
      have bx := bnew w5 (.cells #[.int .i64 0, .slice none 0 0] 37)
      have q2 := setAt_new w5 0 none 0 0
      have hT6 := (hT4.next b5).next bx
      have q16 := (q1.below b5).below bx
      clear b5 bx hT4 H1 h2 q1
      go_upto_region 5 with fail
      generalize w5.heap.size = p2 at *
      generalize w5.alloc (.cells #[.int .i64 0, .slice none 0 0] 37) = w6 at *
      have c0 := hT6.a.c0
      have H1 := Lib.hid (levels_any A n c R w6 (HR.out.below hT6.f) (by omega) (hT.below hT6.f))
      unfold LevEnd at H1
      go_wp2_with fail
      clear c0
      refine H1.out.mono ?_; rintro e w7 (⟨hno, _⟩ | ⟨_, rfl, b7⟩)
      · exact absurd hno HP.out
      have hT7 := hT6.next b7
      have q17 := q16.below b7
      have q27 := q2.below b7
      clear b7 hT6 H1 q16 q2
      have c0 := hT7.a.c0
      have HV := Lib.hid (rpvalid_any A n c R false w7 (HR.out.below hT7.f) (by omega) ⟨(fun h => by cases h), fun h => absurd h HP.out⟩)
      go_wp2_with fail
      refine HV.out.mono ?_; rintro e w8 ⟨rfl, b8⟩
      have hT8 := hT7.next b8
      have q18 := q17.below b8
      have q28 := q27.below b8
      clear c0 b8 hT7 HV q17 q27
      have c0 := q18.c0
      have c1 := q18.c1
      go_wp2_with fail
      refine (noset_any w8).mono ?_; rintro e w9 ⟨rfl, b9⟩
      have hT9 := hT8.next b9
      have q29 := q28.below b9
      clear c0 c1 b9 hT8 q18 q28
      have c0 := q29.c0
      have c1 := q29.c1
      go_wp2_with fail
      refine (noset_any w9).mono ?_; rintro e wa ⟨rfl, ba⟩
      go_wp2_with fail
      go_ret
      exact ⟨rfl, below_next hT9.f ba⟩
end Go.Proofs.YtakjdihhbndcnaaDoor
