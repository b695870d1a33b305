/- FlowClosures: the law's own text, walked: it returns true for all weights and needs. -/
import Derived.Test.YtjdceafkcakbjaaFCq
namespace Go.Proofs.Ytjdceafkcakbjaa
open Go.RowKit
def ClP (k q c d : Nat) (A B : Option Addr) (w : World) : Prop := Calls Try.prog 7 #[.slice A k c, .slice B q d] w fun e w' => e = .returned (.bool true) ∧ Below w.heap.size w w'
/- the boxed weights -/
def WBox (w : World) (p : Nat) (A : Option Addr) (k c : Nat) : Prop := w.heap[p]? = some (.cells #[.slice A k c] 25 (0, 0))
theorem WBox.c0 {w : World} {p : Nat} {A : Option Addr} {k c : Nat} (h : WBox w p A k c) : w.cell? ⟨p, 0, none⟩ = some (.slice A k c) := cell_of_row _ _ 0 _ _ _ h
theorem WBox.lt {w : World} {p : Nat} {A : Option Addr} {k c : Nat} (h : WBox w p A k c) : p < w.heap.size := lt_of_block h
theorem WBox.below {w w' : World} {p : Nat} {A : Option Addr} {k c : Nat} (h : WBox w p A k c) (hb : Below w.heap.size w w') : WBox w' p A k c := (hb.block p h.lt).trans h
theorem WBox.alloc {w : World} {p : Nat} {A : Option Addr} {k c : Nat} (h : WBox w p A k c) (o : Obj) : WBox (w.alloc o) p A k c := (Below.heap_alloc w o p h.lt).trans h
theorem wbox_new (w : World) (A : Option Addr) (k c : Nat) : WBox (w.alloc (.cells #[.slice A k c] 25)) w.heap.size A k c := heap_alloc_new w _
def Skip (k q : Nat) : Prop := (40 < k ∧ k ≤ 500) ∨ 600 < k ∨ (80 < q ∧ q ≤ 1000) ∨ 1100 < q
theorem cl_skip (k q c d : Nat) (A B : Option Addr) (w : World) (h : Skip k q) : ClP k q c d A B w := by
  unfold Skip at h
  have haw := Lib.hid (awake_any (w.alloc (.cells #[.slice A k c] 25)))
  have v0 := wbox_new w A k c
  have b0 := below_new w (.cells #[.slice A k c] 25)
  by_cases h1 : 40 < k
  · by_cases h2 : k ≤ 500
    · have p1 : decide (40 < (k : Int)) = true := decide_eq_true (by omega)
      have p2 : decide ((k : Int) ≤ 500) = true := decide_eq_true (by omega)
      clear h
      have c0 := v0.c0
      go_enter Try.func7, Try.ntmps7
      go_wp2_with fail
      refine haw.out.mono ?_; rintro e w1 ⟨rfl, k1⟩
      have v1 := v0.below k1
      have b1 := below_next b0 k1
      clear v0 b0 k1 c0 haw
      have c0 := v1.c0
      go_wp2_with fail
      go_ret
      exact ⟨rfl, b1⟩
    · by_cases h3 : 600 < k
      · have p1 : decide (40 < (k : Int)) = true := decide_eq_true (by omega)
        have p2 : decide ((k : Int) ≤ 500) = false := decide_eq_false (by omega)
        have p3 : decide (600 < (k : Int)) = true := decide_eq_true (by omega)
        clear h
        have c0 := v0.c0
        go_enter Try.func7, Try.ntmps7
        go_wp2_with fail
        refine haw.out.mono ?_; rintro e w1 ⟨rfl, k1⟩
        have v1 := v0.below k1
        have b1 := below_next b0 k1
        clear v0 b0 k1 c0 haw
        have c0 := v1.c0
        go_wp2_with fail
        go_ret
        exact ⟨rfl, b1⟩
      · by_cases h4 : 80 < q
        · by_cases h5 : q ≤ 1000
          · have p1 : decide (40 < (k : Int)) = true := decide_eq_true (by omega)
            have p2 : decide ((k : Int) ≤ 500) = false := decide_eq_false (by omega)
            have p3 : decide (600 < (k : Int)) = false := decide_eq_false (by omega)
            have p4 : decide (80 < (q : Int)) = true := decide_eq_true (by omega)
            have p5 : decide ((q : Int) ≤ 1000) = true := decide_eq_true (by omega)
            clear h
            have c0 := v0.c0
            go_enter Try.func7, Try.ntmps7
            go_wp2_with fail
            refine haw.out.mono ?_; rintro e w1 ⟨rfl, k1⟩
            have v1 := v0.below k1
            have b1 := below_next b0 k1
            clear v0 b0 k1 c0 haw
            have c0 := v1.c0
            go_wp2_with fail
            go_ret
            exact ⟨rfl, b1⟩
          · have p1 : decide (40 < (k : Int)) = true := decide_eq_true (by omega)
            have p2 : decide ((k : Int) ≤ 500) = false := decide_eq_false (by omega)
            have p3 : decide (600 < (k : Int)) = false := decide_eq_false (by omega)
            have p4 : decide (80 < (q : Int)) = true := decide_eq_true (by omega)
            have p5 : decide ((q : Int) ≤ 1000) = false := decide_eq_false (by omega)
            have p6 : decide (1100 < (q : Int)) = true := decide_eq_true (by omega)
            clear h
            have c0 := v0.c0
            go_enter Try.func7, Try.ntmps7
            go_wp2_with fail
            refine haw.out.mono ?_; rintro e w1 ⟨rfl, k1⟩
            have v1 := v0.below k1
            have b1 := below_next b0 k1
            clear v0 b0 k1 c0 haw
            have c0 := v1.c0
            go_wp2_with fail
            go_ret
            exact ⟨rfl, b1⟩
        · omega
  · by_cases h4 : 80 < q
    · by_cases h5 : q ≤ 1000
      · have p1 : decide (40 < (k : Int)) = false := decide_eq_false (by omega)
        have p3 : decide (600 < (k : Int)) = false := decide_eq_false (by omega)
        have p4 : decide (80 < (q : Int)) = true := decide_eq_true (by omega)
        have p5 : decide ((q : Int) ≤ 1000) = true := decide_eq_true (by omega)
        clear h
        have c0 := v0.c0
        go_enter Try.func7, Try.ntmps7
        go_wp2_with fail
        refine haw.out.mono ?_; rintro e w1 ⟨rfl, k1⟩
        have v1 := v0.below k1
        have b1 := below_next b0 k1
        clear v0 b0 k1 c0 haw
        have c0 := v1.c0
        go_wp2_with fail
        go_ret
        exact ⟨rfl, b1⟩
      · have p1 : decide (40 < (k : Int)) = false := decide_eq_false (by omega)
        have p3 : decide (600 < (k : Int)) = false := decide_eq_false (by omega)
        have p4 : decide (80 < (q : Int)) = true := decide_eq_true (by omega)
        have p5 : decide ((q : Int) ≤ 1000) = false := decide_eq_false (by omega)
        have p6 : decide (1100 < (q : Int)) = true := decide_eq_true (by omega)
        clear h
        have c0 := v0.c0
        go_enter Try.func7, Try.ntmps7
        go_wp2_with fail
        refine haw.out.mono ?_; rintro e w1 ⟨rfl, k1⟩
        have v1 := v0.below k1
        have b1 := below_next b0 k1
        clear v0 b0 k1 c0 haw
        have c0 := v1.c0
        go_wp2_with fail
        go_ret
        exact ⟨rfl, b1⟩
    · omega
theorem cl_full (k q c d : Nat) (A B : Option Addr) (z : Nat → Int) (y : Nat → Int × Int) (w : World) (hA : Ints w A k z) (hB : Prs w B q y) (h : ¬ Skip k q) (hf : 500 < k ∨ 1000 < q) : ClP k q c d A B w := by
  unfold Skip at h
  have haw := Lib.hid (awake_any (w.alloc (.cells #[.slice A k c] 25)))
  have C : Hid (∀ u, Below w.heap.size w u → Calls Try.prog 30 #[.slice A k c, .slice B q d] u fun e w' => e = .returned (.tuple #[.agg #[.int .i64 0, .slice none 0 0], .int .i64 0, .int .i64 5]) ∧ Below u.heap.size u w') := fun u hu => clo_err k q c d A B 5 z y u (hA.below hu) (hB.below hu) (Or.inl ⟨hf, rfl⟩)
  clear hA hB
  have v0 := wbox_new w A k c
  have b0 := below_new w (.cells #[.slice A k c] 25)
  have p3 : decide (600 < (k : Int)) = false := decide_eq_false (by omega)
  have p6 : decide (1100 < (q : Int)) = false := decide_eq_false (by omega)
  by_cases h1 : 40 < k
  · by_cases h4 : 80 < q
    · have p1 : decide (40 < (k : Int)) = true := decide_eq_true (by omega)
      have p2 : decide ((k : Int) ≤ 500) = false := decide_eq_false (by omega)
      have p4 : decide (80 < (q : Int)) = true := decide_eq_true (by omega)
      have p5 : decide ((q : Int) ≤ 1000) = false := decide_eq_false (by omega)
      have q1 : decide (500 < (k : Int)) = true := decide_eq_true (by omega)
      clear h hf
      have c0 := v0.c0
      go_enter Try.func7, Try.ntmps7
      go_wp2_with fail
      refine haw.out.mono ?_; rintro e w1 ⟨rfl, k1⟩
      have v1 := v0.below k1
      have b1 := below_next b0 k1
      clear v0 b0 k1 c0 haw
      have c0 := v1.c0
      go_wp2_with fail
      refine (C.out _ b1).mono ?_; rintro e w2 ⟨rfl, k2⟩
      have v2 := (v1.below k2).alloc (.cells #[.int .i64 0, .slice none 0 0] 28)
      have b2 := (below_next b1 k2).alloc (below_next b1 k2).size (.cells #[.int .i64 0, .slice none 0 0] 28)
      have s2 := setAt_new w2 0 none 0 0
      clear v1 b1 k2 c0 C
      have c0 := v2.c0
      go_upto_region 6 with fail
      generalize w2.alloc (.cells #[.int .i64 0, .slice none 0 0] 28) = W2 at *
      have d0 := s2.c0
      have d1 := s2.c1
      go_wp2_with fail
      refine (none_yes _).mono ?_; rintro e w9 ⟨rfl, k9⟩
      have b9 := below_next b2 k9
      clear v2 s2 b2 k9 c0 d0 d1
      go_wp2_with fail
      go_ret
      exact ⟨rfl, b9⟩
    · have p1 : decide (40 < (k : Int)) = true := decide_eq_true (by omega)
      have p2 : decide ((k : Int) ≤ 500) = false := decide_eq_false (by omega)
      have p4 : decide (80 < (q : Int)) = false := decide_eq_false (by omega)
      have q1 : decide (500 < (k : Int)) = true := decide_eq_true (by omega)
      clear h hf
      have c0 := v0.c0
      go_enter Try.func7, Try.ntmps7
      go_wp2_with fail
      refine haw.out.mono ?_; rintro e w1 ⟨rfl, k1⟩
      have v1 := v0.below k1
      have b1 := below_next b0 k1
      clear v0 b0 k1 c0 haw
      have c0 := v1.c0
      go_wp2_with fail
      refine (C.out _ b1).mono ?_; rintro e w2 ⟨rfl, k2⟩
      have v2 := (v1.below k2).alloc (.cells #[.int .i64 0, .slice none 0 0] 28)
      have b2 := (below_next b1 k2).alloc (below_next b1 k2).size (.cells #[.int .i64 0, .slice none 0 0] 28)
      have s2 := setAt_new w2 0 none 0 0
      clear v1 b1 k2 c0 C
      have c0 := v2.c0
      go_upto_region 6 with fail
      generalize w2.alloc (.cells #[.int .i64 0, .slice none 0 0] 28) = W2 at *
      have d0 := s2.c0
      have d1 := s2.c1
      go_wp2_with fail
      refine (none_yes _).mono ?_; rintro e w9 ⟨rfl, k9⟩
      have b9 := below_next b2 k9
      clear v2 s2 b2 k9 c0 d0 d1
      go_wp2_with fail
      go_ret
      exact ⟨rfl, b9⟩
  · have p1 : decide (40 < (k : Int)) = false := decide_eq_false (by omega)
    have p4 : decide (80 < (q : Int)) = true := decide_eq_true (by omega)
    have p5 : decide ((q : Int) ≤ 1000) = false := decide_eq_false (by omega)
    have q1 : decide (500 < (k : Int)) = false := decide_eq_false (by omega)
    have q2 : decide (1000 < (q : Int)) = true := decide_eq_true (by omega)
    clear h hf
    have c0 := v0.c0
    go_enter Try.func7, Try.ntmps7
    go_wp2_with fail
    refine haw.out.mono ?_; rintro e w1 ⟨rfl, k1⟩
    have v1 := v0.below k1
    have b1 := below_next b0 k1
    clear v0 b0 k1 c0 haw
    have c0 := v1.c0
    go_wp2_with fail
    refine (C.out _ b1).mono ?_; rintro e w2 ⟨rfl, k2⟩
    have v2 := (v1.below k2).alloc (.cells #[.int .i64 0, .slice none 0 0] 28)
    have b2 := (below_next b1 k2).alloc (below_next b1 k2).size (.cells #[.int .i64 0, .slice none 0 0] 28)
    have s2 := setAt_new w2 0 none 0 0
    clear v1 b1 k2 c0 C
    have c0 := v2.c0
    go_upto_region 6 with fail
    generalize w2.alloc (.cells #[.int .i64 0, .slice none 0 0] 28) = W2 at *
    have d0 := s2.c0
    have d1 := s2.c1
    go_wp2_with fail
    refine (none_yes _).mono ?_; rintro e w9 ⟨rfl, k9⟩
    have b9 := below_next b2 k9
    clear v2 s2 b2 k9 c0 d0 d1
    go_wp2_with fail
    go_ret
    exact ⟨rfl, b9⟩
theorem cl_range (k q c d : Nat) (A B : Option Addr) (z : Nat → Int) (y : Nat → Int × Int) (w : World) (hA : Ints w A k z) (hB : Prs w B q y) (hk : k ≤ 40) (hq : q ≤ 80) (hn : ¬ CArgs k q z y) : ClP k q c d A B w := by
  have haw := Lib.hid (awake_any (w.alloc (.cells #[.slice A k c] 25)))
  have C : Hid (∀ u, Below w.heap.size w u → Calls Try.prog 30 #[.slice A k c, .slice B q d] u fun e w' => e = .returned (.tuple #[.agg #[.int .i64 0, .slice none 0 0], .int .i64 0, .int .i64 2]) ∧ Below u.heap.size u w') := fun u hu => clo_err k q c d A B 2 z y u (hA.below hu) (hB.below hu) (Or.inr ⟨by omega, by omega, hn, rfl⟩)
  have p1 : decide (40 < (k : Int)) = false := decide_eq_false (by omega)
  have p3 : decide (600 < (k : Int)) = false := decide_eq_false (by omega)
  have p4 : decide (80 < (q : Int)) = false := decide_eq_false (by omega)
  have p6 : decide (1100 < (q : Int)) = false := decide_eq_false (by omega)
  have q1 : decide (500 < (k : Int)) = false := decide_eq_false (by omega)
  have q2 : decide (1000 < (q : Int)) = false := decide_eq_false (by omega)
  have v0 := wbox_new w A k c
  have b0 := below_new w (.cells #[.slice A k c] 25)
  by_cases hz : ∀ i, i < k → WOk z i
  · have hy : ¬ ∀ i, i < q → NOk y k i := fun hy => hn ⟨by omega, by omega, hz, hy⟩
    have C1 : Hid (∀ u, Below w.heap.size w u → Calls Try.prog 28 #[.slice A k c, .func (Fn.func 31) #[] #[]] u fun e w' => e = .returned (.bool false) ∧ Below u.heap.size u w') := fun u hu => contains_w A k c z false u (hA.below hu) (by omega) ⟨fun e => (by cases e), fun e => absurd hz e⟩
    have C2 : Hid (∀ u, Below w.heap.size w u → w.heap.size < u.heap.size → u.cell? ⟨w.heap.size, 0, none⟩ = some (.slice A k c) → Calls Try.prog 32 #[.slice B q d, .func (Fn.func 33) #[] #[.pointer (some ⟨w.heap.size, 0, none⟩)]] u fun e w' => e = .returned (.bool true) ∧ Below u.heap.size u w') := fun u hu h1 h2 => contains_n A q d k c w.heap.size B y true u (hB.below hu) (by omega) h1 h2 ⟨fun _ => hy, fun _ => rfl⟩
    clear hA hB hn hz hy
    have c0 := v0.c0
    go_enter Try.func7, Try.ntmps7
    go_wp2_with fail
    refine haw.out.mono ?_; rintro e w1 ⟨rfl, k1⟩
    have v1 := v0.below k1
    have b1 := below_next b0 k1
    clear v0 b0 k1 c0 haw
    have c0 := v1.c0
    go_wp2_with fail
    refine (C.out _ b1).mono ?_; rintro e w2 ⟨rfl, k2⟩
    have v2 := (v1.below k2).alloc (.cells #[.int .i64 0, .slice none 0 0] 28)
    have b2 := (below_next b1 k2).alloc (below_next b1 k2).size (.cells #[.int .i64 0, .slice none 0 0] 28)
    have s2 := setAt_new w2 0 none 0 0
    clear v1 b1 k2 c0 C
    have c0 := v2.c0
    go_upto_region 6 with fail
    generalize w2.alloc (.cells #[.int .i64 0, .slice none 0 0] 28) = W2 at *
    go_wp2_with fail
    refine (C1.out _ b2).mono ?_; rintro e w3 ⟨rfl, k3⟩
    have v3 := v2.below k3
    have s3 := s2.below k3
    have b3 := below_next b2 k3
    clear v2 s2 b2 k3 c0 C1
    have c0 := v3.c0
    have hl3 := v3.lt
    go_wp2_with fail
    refine (C2.out _ b3 hl3 c0).mono ?_; rintro e w4 ⟨rfl, k4⟩
    have s4 := s3.below k4
    have b4 := below_next b3 k4
    clear v3 s3 b3 k4 c0 hl3 C2
    have d0 := s4.c0
    have d1 := s4.c1
    go_wp2_with fail
    refine (none_yes _).mono ?_; rintro e w9 ⟨rfl, k9⟩
    have b9 := below_next b4 k9
    clear s4 b4 k9 d0 d1
    go_wp2_with fail
    go_ret
    exact ⟨rfl, b9⟩
  · have C1 : Hid (∀ u, Below w.heap.size w u → Calls Try.prog 28 #[.slice A k c, .func (Fn.func 31) #[] #[]] u fun e w' => e = .returned (.bool true) ∧ Below u.heap.size u w') := fun u hu => contains_w A k c z true u (hA.below hu) (by omega) ⟨fun _ => hz, fun _ => rfl⟩
    clear hA hB hn hz
    have c0 := v0.c0
    go_enter Try.func7, Try.ntmps7
    go_wp2_with fail
    refine haw.out.mono ?_; rintro e w1 ⟨rfl, k1⟩
    have v1 := v0.below k1
    have b1 := below_next b0 k1
    clear v0 b0 k1 c0 haw
    have c0 := v1.c0
    go_wp2_with fail
    refine (C.out _ b1).mono ?_; rintro e w2 ⟨rfl, k2⟩
    have v2 := (v1.below k2).alloc (.cells #[.int .i64 0, .slice none 0 0] 28)
    have b2 := (below_next b1 k2).alloc (below_next b1 k2).size (.cells #[.int .i64 0, .slice none 0 0] 28)
    have s2 := setAt_new w2 0 none 0 0
    clear v1 b1 k2 c0 C
    have c0 := v2.c0
    go_upto_region 6 with fail
    generalize w2.alloc (.cells #[.int .i64 0, .slice none 0 0] 28) = W2 at *
    go_wp2_with fail
    refine (C1.out _ b2).mono ?_; rintro e w3 ⟨rfl, k3⟩
    have v3 := v2.below k3
    have s3 := s2.below k3
    have b3 := below_next b2 k3
    clear v2 s2 b2 k3 c0 C1
    have c0 := v3.c0
    have d0 := s3.c0
    have d1 := s3.c1
    go_wp2_with fail
    refine (none_yes _).mono ?_; rintro e w9 ⟨rfl, k9⟩
    have b9 := below_next b3 k9
    clear v3 s3 b3 k9 c0 d0 d1
    go_wp2_with fail
    go_ret
    exact ⟨rfl, b9⟩
theorem clo_words {k q : Nat} {z : Nat → Int} {y : Nat → Int × Int} {l : List Nat} {T : Nat → Bool} (hl : ∀ v, v ∈ l → v < k) (h1 : Best k q z y (bt (setF l))) (h2 : Best k q z y T) : (∀ j, j < (k + 63) / 64 → bw T k j = setF l j) ∧ wgt z T k = wgt z (bt (setF l)) k := by
  obtain ⟨a, b⟩ := h1.same h2
  refine ⟨bt_ext (bw_u64 T _ k) (setF_u64 l _) (fun i _ => ?_), b.symm⟩
  rw [Bool.eq_iff_iff, bw_bt]
  constructor
  · rintro ⟨h3, h4⟩; rw [a i h3]; exact h4
  · intro h3
    have h4 := hl i ((setF_bt l i).1 h3)
    exact ⟨h4, by rw [← a i h4]; exact h3⟩
def ClM (w : World) (k q mw : Nat) (z : Nat → Int) (y : Nat → Int × Int) (e : Ending) (w' : World) : Prop :=
  ∃ g l V, e = .returned (.tuple #[.agg #[.int .i64 k, .slice (some ⟨g, 0, none⟩) mw mw], .int .i64 V, .int .i64 0]) ∧ w'.rowIs g 61 mw (fun j => .int .u64 (setF l j : Nat)) ∧ (∀ v, v ∈ l → v < k) ∧ Best k q z y (bt (setF l)) ∧ V = wgt z (bt (setF l)) k ∧ w.heap.size ≤ g ∧ Below w.heap.size w w'
def RClM (w : World) (k mw : Nat) (f : Nat → Nat) (V : Int) (e : Ending) (w' : World) : Prop :=
  ∃ g, e = .returned (.tuple #[.agg #[.int .i64 k, .slice (some ⟨g, 0, none⟩) mw mw], .int .i64 V]) ∧ w'.rowIs g 61 mw (fun j => .int .u64 (f j : Nat)) ∧ w.heap.size ≤ g ∧ Below w.heap.size w w'
set_option maxHeartbeats 4000000 in
theorem cl_ok (k q c d : Nat) (A B : Option Addr) (z : Nat → Int) (y : Nat → Int × Int) (w : World) (hA : Ints w A k z) (hB : Prs w B q y) (hk : k ≤ 40) (hq : q ≤ 80) (hn : CArgs k q z y) : ClP k q c d A B w := by
  have haw := Lib.hid (awake_any (w.alloc (.cells #[.slice A k c] 25)))
  obtain ⟨mw, hmw⟩ : ∃ mw, (k + 63) / 64 = mw := ⟨_, rfl⟩
  have C : Hid (∀ u, Below w.heap.size w u → Calls Try.prog 30 #[.slice A k c, .slice B q d] u (ClM u k q mw z y)) := fun u hu => (clo_ok k q c d A B z y u (hA.below hu) (hB.below hu) hn).mono fun e w' h => by
    obtain ⟨g, l, h1, h2, h3, h4, h5, h6⟩ := h
    rw [hmw] at h1 h2
    exact ⟨g, l, _, h1, h2, h3, h4, rfl, h5, h6⟩
  have RC : Hid (∀ l V, (∀ v, v ∈ l → v < k) → Best k q z y (bt (setF l)) → V = wgt z (bt (setF l)) k → ∀ u, Below w.heap.size w u → Calls Try.prog 34 #[.slice A k c, .slice B q d] u (RClM u k mw (setF l) V)) := fun l V hl hbe hV u hu => (refClo_any k q c d A B z y u (hA.below hu) (hB.below hu) hn).mono fun e w' h => by
    obtain ⟨g, T, h1, h2, h3, h5, h6⟩ := h
    obtain ⟨e1, e2⟩ := clo_words hl hbe h3
    rw [hmw] at h1 h2 e1
    rw [e2, ← hV] at h1
    exact ⟨g, h1, h2.congr fun j hj => by rw [e1 j hj], h5, h6⟩
  have C1 : Hid (∀ u, Below w.heap.size w u → Calls Try.prog 28 #[.slice A k c, .func (Fn.func 31) #[] #[]] u fun e w' => e = .returned (.bool false) ∧ Below u.heap.size u w') := fun u hu => contains_w A k c z false u (hA.below hu) (by omega) ⟨fun e => (by cases e), fun e => absurd hn.z e⟩
  have C2 : Hid (∀ u, Below w.heap.size w u → w.heap.size < u.heap.size → u.cell? ⟨w.heap.size, 0, none⟩ = some (.slice A k c) → Calls Try.prog 32 #[.slice B q d, .func (Fn.func 33) #[] #[.pointer (some ⟨w.heap.size, 0, none⟩)]] u fun e w' => e = .returned (.bool false) ∧ Below u.heap.size u w') := fun u hu h1 h2 => contains_n A q d k c w.heap.size B y false u (hB.below hu) (by omega) h1 h2 ⟨fun e => (by cases e), fun e => absurd hn.y e⟩
  have CS : Hid (∀ l g g2 u, u.rowIs g 61 mw (fun k => .int .u64 (setF l k : Nat)) → u.rowIs g2 61 mw (fun k => .int .u64 (setF l k : Nat)) → Calls Try.prog 24 #[.agg #[.int .i64 k, .slice (some ⟨g, 0, none⟩) mw mw], .agg #[.int .i64 k, .slice (some ⟨g2, 0, none⟩) mw mw]] u fun e w' => e = .returned (.bool true) ∧ Below u.heap.size u w') := fun l g g2 u h1 h2 =>
    refSame_yes k _ _ mw mw mw (setF l) u (row_wds h1 (setF_u64 l mw)) (row_wds h2 (setF_u64 l mw)) (by omega)
  have p1 : decide (40 < (k : Int)) = false := decide_eq_false (by omega)
  have p3 : decide (600 < (k : Int)) = false := decide_eq_false (by omega)
  have p4 : decide (80 < (q : Int)) = false := decide_eq_false (by omega)
  have p6 : decide (1100 < (q : Int)) = false := decide_eq_false (by omega)
  have q1 : decide (500 < (k : Int)) = false := decide_eq_false (by omega)
  have q2 : decide (1000 < (q : Int)) = false := decide_eq_false (by omega)
  have v0 := wbox_new w A k c
  have b0 := below_new w (.cells #[.slice A k c] 25)
  clear hA hB hn hmw
  have c0 := v0.c0
  go_enter Try.func7, Try.ntmps7
  go_wp2_with fail
  refine haw.out.mono ?_; rintro e w1 ⟨rfl, k1⟩
  have v1 := v0.below k1
  have b1 := below_next b0 k1
  clear v0 b0 k1 c0 haw
  have c0 := v1.c0
  go_wp2_with fail
  refine (C.out _ b1).mono ?_; rintro e w2 ⟨g, l, VV, rfl, hrow, hl, hbe, hV, hg, k2⟩
  have RC2 := Lib.hid (RC.out l VV hl hbe hV)
  have v2 := (v1.below k2).alloc (.cells #[.int .i64 k, .slice (some ⟨g, 0, none⟩) mw mw] 28)
  have b2 := (below_next b1 k2).alloc (below_next b1 k2).size (.cells #[.int .i64 k, .slice (some ⟨g, 0, none⟩) mw mw] 28)
  have s2 := setAt_new w2 k (some ⟨g, 0, none⟩) mw mw
  have r2 := hrow.alloc (.cells #[.int .i64 k, .slice (some ⟨g, 0, none⟩) mw mw] 28)
  clear v1 b1 k2 c0 hrow hl hbe hV RC C
  have c0 := v2.c0
  go_upto_region 6 with fail
  generalize w2.alloc (.cells #[.int .i64 (k : Int), .slice (some ⟨g, 0, none⟩) mw mw] 28) = W2 at *
  go_wp2_with fail
  refine (C1.out _ b2).mono ?_; rintro e w3 ⟨rfl, k3⟩
  have v3 := v2.below k3
  have s3 := s2.below k3
  have r3 := row_below r2 k3
  have b3 := below_next b2 k3
  clear v2 s2 r2 b2 k3 c0 C1
  have c0 := v3.c0
  have hl3 := v3.lt
  go_wp2_with fail
  refine (C2.out _ b3 hl3 c0).mono ?_; rintro e w4 ⟨rfl, k4⟩
  have v4 := v3.below k4
  have s4 := s3.below k4
  have r4 := row_below r3 k4
  have b4 := below_next b3 k4
  clear v3 s3 r3 b3 k4 c0 hl3 C2
  have c0 := v4.c0
  go_wp2_with fail
  refine (RC2.out _ b4).mono ?_; rintro e w5 ⟨g2, rfl, q2, hg2, k5⟩
  have s5 := (s4.below k5).alloc (.cells #[.int .i64 k, .slice (some ⟨g2, 0, none⟩) mw mw] 28)
  have r5 := (row_below r4 k5).alloc (.cells #[.int .i64 k, .slice (some ⟨g2, 0, none⟩) mw mw] 28)
  have q5 := q2.alloc (.cells #[.int .i64 k, .slice (some ⟨g2, 0, none⟩) mw mw] 28)
  have t5 := setAt_new w5 k (some ⟨g2, 0, none⟩) mw mw
  have b5 := (below_next b4 k5).alloc (below_next b4 k5).size (.cells #[.int .i64 k, .slice (some ⟨g2, 0, none⟩) mw mw] 28)
  clear v4 s4 r4 b4 k5 c0 q2 RC2
  go_upto_region 11 with fail
  generalize w5.alloc (.cells #[.int .i64 (k : Int), .slice (some ⟨g2, 0, none⟩) mw mw] 28) = W5 at *
  have c0 := s5.c0
  have c1 := s5.c1
  have d0 := t5.c0
  have d1 := t5.c1
  have hb8 : (VV == VV) = true := by simp
  go_wp2_with fail
  refine (CS.out l _ _ _ r5 q5).mono ?_; rintro e w7 ⟨rfl, k7⟩
  have b7 := below_next b5 k7
  clear s5 t5 r5 q5 b5 k7 c0 c1 d0 d1 CS
  go_wp2_with fail
  go_ret
  exact ⟨rfl, b7⟩
theorem cl_law (k q c d : Nat) (A B : Option Addr) (z : Nat → Int) (y : Nat → Int × Int) (w : World) (hA : Ints w A k z) (hB : Prs w B q y) : ClP k q c d A B w := by
  by_cases hs : Skip k q
  · exact cl_skip k q c d A B w hs
  · by_cases hf : 500 < k ∨ 1000 < q
    · exact cl_full k q c d A B z y w hA hB hs hf
    · unfold Skip at hs
      by_cases hn : CArgs k q z y
      · exact cl_ok k q c d A B z y w hA hB (by omega) (by omega) hn
      · exact cl_range k q c d A B z y w hA hB (by omega) (by omega) hn
end Go.Proofs.Ytjdceafkcakbjaa
