/- The contracts of the reference on sets: Inter and Minus. -/
import Derived.Test.YtijghglppgihmaaDoorRefC
namespace Go.Proofs.YtijghglppgihmaaDoor
open Go.RowKit
/- the words of a list of numbers -/
def ofl (l : List Nat) : Nat → Nat := ow (fun k => l.getD k 0) l.length
theorem refOf_own (N : Nat) (v : Value) (l : List Nat) (base : Nat) (w : World) (hN : N ≤ 512) (h : w.ownsRow base 3 1 v l.length (vals l)) (hn : l.length ≤ 100000) (hz : ∀ i, i ∈ l → i < N) :
    Calls Tryd.prog 19 #[.int .i64 N, v] w (SetNew w N ((N + 63) / 64) (ofl l)) := by
  obtain ⟨A, c, rfl, hi, _⟩ := own_ints h
  refine refOf_any N A l.length c (fun k => l.getD k 0) w hN hi hn (fun k hk => ?_)
  show l.getD k 0 < N
  rw [List.getD_eq_getElem?_getD, List.getElem?_eq_getElem hk]
  exact hz _ (List.getElem_mem hk)
/- two boxed sets and the cell of the result -/
structure Three (w wr : World) (N M : Int) (A B : Option Addr) (la ca lb cb : Nat) : Prop where
  two : Two w wr N M A B la ca lb cb
  r : SetAt wr (w.heap.size + 2) 0 none 0 0
theorem three_new (w : World) (N M : Int) (A B : Option Addr) (la ca lb cb : Nat) :
    Three w (((w.alloc (.cells #[.int .i64 N, .slice A la ca] 24)).alloc (.cells #[.int .i64 M, .slice B lb cb] 24)).alloc (.cells #[.int .i64 0, .slice none 0 0] 24)) N M A B la ca lb cb := by
  refine ⟨(two_new w N M A B la ca lb cb).alloc _, ?_⟩
  have h := setAt_new ((w.alloc (.cells #[.int .i64 N, .slice A la ca] 24)).alloc (.cells #[.int .i64 M, .slice B lb cb] 24)) 0 none 0 0
  have e : ((w.alloc (.cells #[.int .i64 N, .slice A la ca] 24)).alloc (.cells #[.int .i64 M, .slice B lb cb] 24)).heap.size = w.heap.size + 2 := by simp
  rw [e] at h; exact h
section
variable {w wr w1 w2 : World} {N M : Int} {A B : Option Addr} {la ca lb cb : Nat}
theorem Three.next (h : Three w wr N M A B la ca lb cb) (k : Below wr.heap.size wr w2) : Three w w2 N M A B la ca lb cb := ⟨h.two.next k, h.r.below k⟩
theorem Three.drewN (h : Three w wr N M A B la ca lb cb) (n : Nat) : Three w (wr.drewN n) N M A B la ca lb cb := ⟨h.two.drewN n, h.r⟩
theorem Three.grown {e : TypeId} {size : Nat} {v : Value} {n : Nat} {xs : List Value} {o : Obj} (h : Three w wr N M A B la ca lb cb) (hown : wr.ownsRow (w.heap.size + 3) e size v n xs) (hg : (wr.alloc o).grownBy w1 v.ownBlock) : Three w w1 N M A B la ca lb cb :=
  ⟨⟨(hg.block _ (by have := h.two.s.lt; simp; omega) (fun e => by have := (hown.lt _ e.symm).1; omega)).trans (h.two.s.alloc o), (hg.block _ (by have := h.two.t.lt; simp; omega) (fun e => by have := (hown.lt _ e.symm).1; omega)).trans (h.two.t.alloc o), grown_below h.two.b hown (by omega) hg⟩,
    (hg.block _ (by have := h.r.lt; simp; omega) (fun e => by have := (hown.lt _ e.symm).1; omega)).trans (h.r.alloc o)⟩
end
/- the members of f that are also members of g (c = true), that are none of g (c = false) -/
def sel (c : Bool) (f g : Nat → Nat) (n : Nat) : List Nat := (List.range n).filter fun i => bt f i && (bt g i == c)
theorem sel_succ (c : Bool) (f g : Nat → Nat) (n : Nat) : sel c f g (n + 1) = sel c f g n ++ if (bt f n && (bt g n == c)) then [n] else [] := by
  unfold sel
  rw [List.range_succ, List.filter_append]
  by_cases h : (bt f n && (bt g n == c)) <;> simp [h]
theorem sel_len_le (c : Bool) (f g : Nat → Nat) (n : Nat) : (sel c f g n).length ≤ n := by
  have := List.length_filter_le (fun i => bt f i && (bt g i == c)) (List.range n)
  simpa [sel] using this
theorem sel_lt {c : Bool} {f g : Nat → Nat} {n : Nat} : ∀ i, i ∈ sel c f g n → i < n := by
  intro i hi
  have := (List.mem_filter.1 hi).1
  simpa using this
set_option maxHeartbeats 2000000 in
theorem refInter_any (N : Nat) (A B : Option Addr) (la ca lb cb : Nat) (f g : Nat → Nat) (w : World) (ha : Wds w A la f) (hb : Wds w B lb g) (hN : N ≤ 512) (hla : la = (N + 63) / 64) (hlb : lb = (N + 63) / 64) :
    Calls Tryd.prog 35 #[.agg #[.int .i64 N, .slice A la ca], .agg #[.int .i64 N, .slice B lb cb]] w (SetNew w N ((N + 63) / 64) (ofl (sel true f g N))) := by
  have HA := Lib.hid ha; clear ha
  have HB := Lib.hid hb; clear hb
  have hA9 : la ≤ 9 := by omega
  have hB9 : lb ≤ 9 := by omega
  have hNa : N ≤ 64 * la := by omega
  have hNb : N ≤ 64 * lb := by omega
  clear hla hlb
  go_enter Tryd.func35, Tryd.ntmps35
  go_wp2
  go_loopw [5, 6] (fun x i wr => ∃ (I : Nat) (v : Value), I ≤ N ∧ i = .int .i64 I ∧ v = x ∧ wr.ownsRow (w.heap.size + 3) 3 1 v (sel true f g I).length (vals (sel true f g I)) ∧ Three w wr N N A B la ca lb cb) (fun _ i _ => N - (intOf i).toNat)
  case atStart => exact ⟨0, _, by omega, rfl, rfl, World.ownsRow_nil _ _ _ _, three_new w N N A B la ca lb cb⟩
  case round =>
    obtain ⟨I, v, hI, rfl, rfl, hown, hT⟩ := hrel
    have c0 := hT.two.s.c0
    have c1 := hT.two.s.c1
    have d0 := hT.two.t.c0
    have d1 := hT.two.t.c1
    by_cases hlt : I < N
    · have HA2 : Hid (Wds wr A la f) := HA.out.below hT.two.b
      have HM := Lib.hid (sel_succ true f g I)
      have hml := sel_len_le true f g I
      cases hb : bt f I
      · have HBf := Lib.hid hb; clear hb
        go_wp2_with fail
        refine (bit_any N A la ca f I false _ HA2.out (by omega) (by omega) HBf.out).mono ?_; rintro e w2 ⟨rfl, b2⟩
        have hown2 := own_below hown b2
        go_wp2_with fail
        go_roundw
        case rel => exact ⟨I + 1, v, by omega, by go_num, rfl, by rw [HM.out, HBf.out]; simpa using hown2, hT.next b2⟩
        case measure => simp [intOf]; omega
      · have HBf := Lib.hid hb; clear hb
        go_wp2_with fail
        refine (bit_any N A la ca f I true _ HA2.out (by omega) (by omega) HBf.out).mono ?_; rintro e w2 ⟨rfl, b2⟩
        have hown2 := own_below hown b2
        have hT2 := hT.next b2
        have HB2 : Hid (Wds w2 B lb g) := HB.out.below hT2.two.b
        clear c0 c1 d0 d1
        have d0 := hT2.two.t.c0
        have d1 := hT2.two.t.c1
        cases hbg : bt g I
        · have HBg := Lib.hid hbg; clear hbg
          go_wp2_with fail
          refine (bit_any N B lb cb g I false _ HB2.out (by omega) (by omega) HBg.out).mono ?_; rintro e w3 ⟨rfl, b3⟩
          have hown3 := own_below hown2 b3
          have hT3 := hT2.next b3
          go_wp2_with fail
          go_roundw
          case rel => exact ⟨I + 1, v, by omega, by go_num, rfl, by rw [HM.out, HBf.out, HBg.out]; simpa using hown3, hT3⟩
          case measure => simp [intOf]; omega
        · have HBg := Lib.hid hbg; clear hbg
          go_wp2_with fail
          refine (bit_any N B lb cb g I true _ HB2.out (by omega) (by omega) HBg.out).mono ?_; rintro e w3 ⟨rfl, b3⟩
          have hown3 := own_below hown2 b3
          have hT3 := hT2.next b3
          go_wp2_with (at_builtin; refine append_one rfl (.tmp 21) (.tmp 23) rfl (w.heap.size + 3) v (sel true f g I) I I w3 rfl hown3 rfl (by omega) (by have := hT3.r.lt; omega) rfl ?_)
          intro v' w4 hown4 hg4
          go_wp2_with fail
          go_roundw
          case rel => exact ⟨I + 1, v', by omega, by go_num, rfl, by rw [HM.out, HBf.out, HBg.out]; simpa using hown4, hT3.grown hown3 hg4⟩
          case measure => simp [intOf]; omega
    · obtain rfl : I = N := by omega
      have hml := sel_len_le true f g I
      go_wp2_with fail
      refine (refOf_own I v (sel true f g I) _ _ hN hown (by omega) sel_lt).mono ?_; rintro e w3 ⟨gg, rfl, hg, hrow, b3⟩
      have hT3 := hT.next b3
      have r0 := hT3.r.c0
      have r1 := hT3.r.c1
      have f0 := hT3.r.free 0
      have f1 := hT3.r.free 1
      have hlt3 := hT.r.lt
      go_wp2_with fail
      refine bodyPost_ret (v := .agg #[.int .i64 I, .slice (some ⟨gg, 0, none⟩) ((I + 63) / 64) ((I + 63) / 64)]) (by simp [results, Tryd.results35, go_sem, r0, r1]) rfl ?_
      exact ⟨gg, rfl, by omega, (hrow.setOther (by show gg ≠ w.heap.size + 2; omega) _).setOther (by show gg ≠ w.heap.size + 2; omega) _, (hT3.two.b.setCell (by show w.heap.size ≤ w.heap.size + 2; omega) _).setCell (by show w.heap.size ≤ w.heap.size + 2; omega) _⟩
set_option maxHeartbeats 2000000 in
theorem refMinus_any (N : Nat) (A B : Option Addr) (la ca lb cb : Nat) (f g : Nat → Nat) (w : World) (ha : Wds w A la f) (hb : Wds w B lb g) (hN : N ≤ 512) (hla : la = (N + 63) / 64) (hlb : lb = (N + 63) / 64) :
    Calls Tryd.prog 36 #[.agg #[.int .i64 N, .slice A la ca], .agg #[.int .i64 N, .slice B lb cb]] w (SetNew w N ((N + 63) / 64) (ofl (sel false f g N))) := by
  have HA := Lib.hid ha; clear ha
  have HB := Lib.hid hb; clear hb
  have hA9 : la ≤ 9 := by omega
  have hB9 : lb ≤ 9 := by omega
  have hNa : N ≤ 64 * la := by omega
  have hNb : N ≤ 64 * lb := by omega
  clear hla hlb
  go_enter Tryd.func36, Tryd.ntmps36
  go_wp2
  go_loopw [5, 6] (fun x i wr => ∃ (I : Nat) (v : Value), I ≤ N ∧ i = .int .i64 I ∧ v = x ∧ wr.ownsRow (w.heap.size + 3) 3 1 v (sel false f g I).length (vals (sel false f g I)) ∧ Three w wr N N A B la ca lb cb) (fun _ i _ => N - (intOf i).toNat)
  case atStart => exact ⟨0, _, by omega, rfl, rfl, World.ownsRow_nil _ _ _ _, three_new w N N A B la ca lb cb⟩
  case round =>
    obtain ⟨I, v, hI, rfl, rfl, hown, hT⟩ := hrel
    have c0 := hT.two.s.c0
    have c1 := hT.two.s.c1
    have d0 := hT.two.t.c0
    have d1 := hT.two.t.c1
    by_cases hlt : I < N
    · have HA2 : Hid (Wds wr A la f) := HA.out.below hT.two.b
      have HM := Lib.hid (sel_succ false f g I)
      have hml := sel_len_le false f g I
      cases hb : bt f I
      · have HBf := Lib.hid hb; clear hb
        go_wp2_with fail
        refine (bit_any N A la ca f I false _ HA2.out (by omega) (by omega) HBf.out).mono ?_; rintro e w2 ⟨rfl, b2⟩
        have hown2 := own_below hown b2
        go_wp2_with fail
        go_roundw
        case rel => exact ⟨I + 1, v, by omega, by go_num, rfl, by rw [HM.out, HBf.out]; simpa using hown2, hT.next b2⟩
        case measure => simp [intOf]; omega
      · have HBf := Lib.hid hb; clear hb
        go_wp2_with fail
        refine (bit_any N A la ca f I true _ HA2.out (by omega) (by omega) HBf.out).mono ?_; rintro e w2 ⟨rfl, b2⟩
        have hown2 := own_below hown b2
        have hT2 := hT.next b2
        have HB2 : Hid (Wds w2 B lb g) := HB.out.below hT2.two.b
        clear c0 c1 d0 d1
        have d0 := hT2.two.t.c0
        have d1 := hT2.two.t.c1
        cases hbg : bt g I
        · have HBg := Lib.hid hbg; clear hbg
          go_wp2_with fail
          refine (bit_any N B lb cb g I false _ HB2.out (by omega) (by omega) HBg.out).mono ?_; rintro e w3 ⟨rfl, b3⟩
          have hown3 := own_below hown2 b3
          have hT3 := hT2.next b3
          go_wp2_with (at_builtin; refine append_one rfl (.tmp 22) (.tmp 24) rfl (w.heap.size + 3) v (sel false f g I) I I w3 rfl hown3 rfl (by omega) (by have := hT3.r.lt; omega) rfl ?_)
          intro v' w4 hown4 hg4
          go_wp2_with fail
          go_roundw
          case rel => exact ⟨I + 1, v', by omega, by go_num, rfl, by rw [HM.out, HBf.out, HBg.out]; simpa using hown4, hT3.grown hown3 hg4⟩
          case measure => simp [intOf]; omega
        · have HBg := Lib.hid hbg; clear hbg
          go_wp2_with fail
          refine (bit_any N B lb cb g I true _ HB2.out (by omega) (by omega) HBg.out).mono ?_; rintro e w3 ⟨rfl, b3⟩
          have hown3 := own_below hown2 b3
          have hT3 := hT2.next b3
          go_wp2_with fail
          go_roundw
          case rel => exact ⟨I + 1, v, by omega, by go_num, rfl, by rw [HM.out, HBf.out, HBg.out]; simpa using hown3, hT3⟩
          case measure => simp [intOf]; omega
    · obtain rfl : I = N := by omega
      have hml := sel_len_le false f g I
      go_wp2_with fail
      refine (refOf_own I v (sel false f g I) _ _ hN hown (by omega) sel_lt).mono ?_; rintro e w3 ⟨gg, rfl, hg, hrow, b3⟩
      have hT3 := hT.next b3
      have r0 := hT3.r.c0
      have r1 := hT3.r.c1
      have f0 := hT3.r.free 0
      have f1 := hT3.r.free 1
      have hlt3 := hT.r.lt
      go_wp2_with fail
      refine bodyPost_ret (v := .agg #[.int .i64 I, .slice (some ⟨gg, 0, none⟩) ((I + 63) / 64) ((I + 63) / 64)]) (by simp [results, Tryd.results36, go_sem, r0, r1]) rfl ?_
      exact ⟨gg, rfl, by omega, (hrow.setOther (by show gg ≠ w.heap.size + 2; omega) _).setOther (by show gg ≠ w.heap.size + 2; omega) _, (hT3.two.b.setCell (by show w.heap.size ≤ w.heap.size + 2; omega) _).setCell (by show w.heap.size ≤ w.heap.size + 2; omega) _⟩
end Go.Proofs.YtijghglppgihmaaDoor
